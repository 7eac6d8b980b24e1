/- LevelsRoom: the round at each depth, in pieces -/
import Derived.Test.YtfigockmbphnfaaCR6
import Derived.Test.YtfigockmbphnfaaLc
import Derived.Test.YtfigockmbphnfaaChecked
import Derived.KernelRfl

namespace Go.Lev
open Go.RowKit
set_option linter.unusedVariables false
set_option linter.unusedSimpArgs false
set_option maxRecDepth 100000
noncomputable section
theorem rm1_p (opens : Int) (n i : Nat) (n0 : Nat) (c0 : List LV) (K : Pk) : (xsp Go.Proofs.Try.prog cxr9 100 100 ((spineL (blockIn (nthC (spineL (loopOf (nthC (sp Go.Proofs.Try.prog 8) 8))) 2))).drop 2) (mkTm 100 (rmT opens n i)) (mkS (rmH1 n n0 c0)) (vK rmL K)) = (
  bif okC c0 n0 then
  bif xcm .geq (fndW c0 ↑i) 0 then (
   bif xnn (fndW c0 ↑i) then
   bif xle (xadd (xnat (fndW c0 ↑i)) 1) n0 then
   bif xle (xadd (xadd (xix 0 (xnat (fndW c0 ↑i)) 2) 1) 1) (xln c0) then
   bif isI .u64 (nthD c0 (xadd (xix 0 (xnat (fndW c0 ↑i)) 2) 1)) then
   bif okC c0 n0 then
   bif xle (xadd n0 1) 1000000 then
   bif xnot (xbq (xcm .eql (putE 96 n0 c0 (↑i) 7) 0) (xcm .leq ↑i ↑n)) then (
    K .ret [.int .u16 opens, .bool false, .int .i64 ↑n, .ptr 0 0, .int .i64 ↑i] [some (.cells [.int .i64 ↑n, .slo 1 0 1 0] none), some (.cells [.ptr 2 0] (some 1)), some (.cells [.ptr 3 0, .nils] none), some (.cells [.int .i64 96, .slo 8 0 (tk1N 96 n0 c0 (↑i) 7) 0] none), some .dead, some (.cells [.int .i64 ↑i, .int .u64 7] none), some (.cells [.int .i64 (xmn (xmx (xar .sub .i64 ↑n ↑n0) 0) 96), .nils] none), some (.cells [.int .i64 ↑i, .int .u64 7] none), some (.cells (tk1C 96 n0 c0 (↑i) 7) (some 2))] [])
   else (
    bif xcm .neq (putE 96 n0 c0 (↑i) 7) 0 then (
     bif xcm .neq (putE 96 n0 c0 (↑i) 7) 5 then (
      K .ret [.int .u16 opens, .bool false, .int .i64 ↑n, .ptr 0 0, .int .i64 ↑i] [some (.cells [.int .i64 ↑n, .slo 1 0 1 0] none), some (.cells [.ptr 2 0] (some 1)), some (.cells [.ptr 3 0, .nils] none), some (.cells [.int .i64 96, .slo 8 0 (tk1N 96 n0 c0 (↑i) 7) 0] none), some .dead, some (.cells [.int .i64 ↑i, .int .u64 7] none), some (.cells [.int .i64 (xmn (xmx (xar .sub .i64 ↑n ↑n0) 0) 96), .nils] none), some (.cells [.int .i64 ↑i, .int .u64 7] none), some (.cells (tk1C 96 n0 c0 (↑i) 7) (some 2))] [])
     else (
      bif xcm .neq (xar .sub .i64 ↑n ↑(tk1N 96 n0 c0 (↑i) 7)) (xmx 0 (xar .sub .i64 ↑n ↑i)) then (
       K .ret [.int .u16 opens, .bool false, .int .i64 ↑n, .ptr 0 0, .int .i64 ↑i] [some (.cells [.int .i64 ↑n, .slo 1 0 1 0] none), some (.cells [.ptr 2 0] (some 1)), some (.cells [.ptr 3 0, .nils] none), some (.cells [.int .i64 96, .slo 8 0 (tk1N 96 n0 c0 (↑i) 7) 0] none), some .dead, some (.cells [.int .i64 ↑i, .int .u64 7] none), some (.cells [.int .i64 (xmn (xmx (xar .sub .i64 ↑n ↑n0) 0) 96), .nils] none), some (.cells [.int .i64 ↑i, .int .u64 7] none), some (.cells (tk1C 96 n0 c0 (↑i) 7) (some 2))] [])
      else (
       K .normal [.int .u16 opens, .any, .int .i64 ↑n, .ptr 0 0, .int .i64 ↑i] [some (.cells [.int .i64 ↑n, .slo 1 0 1 0] none), some (.cells [.ptr 2 0] (some 1)), some (.cells [.ptr 3 0, .nils] none), some (.cells [.int .i64 96, .slo 8 0 (tk1N 96 n0 c0 (↑i) 7) 0] none), some .dead, some (.cells [.int .i64 ↑i, .int .u64 7] none), some (.cells [.int .i64 (xmn (xmx (xar .sub .i64 ↑n ↑n0) 0) 96), .nils] none), some (.cells [.int .i64 ↑i, .int .u64 7] none), some (.cells (tk1C 96 n0 c0 (↑i) 7) (some 2))] [])))
    else (
     bif xcm .neq (xar .sub .i64 ↑n ↑(tk1N 96 n0 c0 (↑i) 7)) (xmx 0 (xar .sub .i64 ↑n ↑i)) then (
      K .ret [.int .u16 opens, .bool false, .int .i64 ↑n, .ptr 0 0, .int .i64 ↑i] [some (.cells [.int .i64 ↑n, .slo 1 0 1 0] none), some (.cells [.ptr 2 0] (some 1)), some (.cells [.ptr 3 0, .nils] none), some (.cells [.int .i64 96, .slo 8 0 (tk1N 96 n0 c0 (↑i) 7) 0] none), some .dead, some (.cells [.int .i64 ↑i, .int .u64 7] none), some (.cells [.int .i64 (xmn (xmx (xar .sub .i64 ↑n ↑n0) 0) 96), .nils] none), some (.cells [.int .i64 ↑i, .int .u64 7] none), some (.cells (tk1C 96 n0 c0 (↑i) 7) (some 2))] [])
     else (
      K .normal [.int .u16 opens, .any, .int .i64 ↑n, .ptr 0 0, .int .i64 ↑i] [some (.cells [.int .i64 ↑n, .slo 1 0 1 0] none), some (.cells [.ptr 2 0] (some 1)), some (.cells [.ptr 3 0, .nils] none), some (.cells [.int .i64 96, .slo 8 0 (tk1N 96 n0 c0 (↑i) 7) 0] none), some .dead, some (.cells [.int .i64 ↑i, .int .u64 7] none), some (.cells [.int .i64 (xmn (xmx (xar .sub .i64 ↑n ↑n0) 0) 96), .nils] none), some (.cells [.int .i64 ↑i, .int .u64 7] none), some (.cells (tk1C 96 n0 c0 (↑i) 7) (some 2))] [])))
   else False
   else False
   else False
   else False
   else False
   else False)
  else (
   bif xcm .lss (↑i) 1 then (
    bif xnot (xbq false (xcm .leq ↑i ↑n)) then (
     K .ret [.int .u16 opens, .bool false, .int .i64 ↑n, .ptr 0 0, .int .i64 ↑i] [some (.cells [.int .i64 ↑n, .slo 1 0 1 0] none), some (.cells [.ptr 2 0] (some 1)), some (.cells [.ptr 3 0, .nils] none), some (.cells [.int .i64 96, .slo 4 0 n0 0] none), some (.cells c0 (some 2)), some (.cells [.int .i64 ↑i, .int .u64 7] none), some (.cells [.int .i64 (xmn (xmx (xar .sub .i64 ↑n ↑n0) 0) 96), .nils] none), some (.cells [.int .i64 ↑i, .int .u64 7] none)] [])
    else (
     K .ret [.int .u16 opens, .bool false, .int .i64 ↑n, .ptr 0 0, .int .i64 ↑i] [some (.cells [.int .i64 ↑n, .slo 1 0 1 0] none), some (.cells [.ptr 2 0] (some 1)), some (.cells [.ptr 3 0, .nils] none), some (.cells [.int .i64 96, .slo 4 0 n0 0] none), some (.cells c0 (some 2)), some (.cells [.int .i64 ↑i, .int .u64 7] none), some (.cells [.int .i64 (xmn (xmx (xar .sub .i64 ↑n ↑n0) 0) 96), .nils] none), some (.cells [.int .i64 ↑i, .int .u64 7] none)] []))
   else (
    bif xcm .geq (↑i) 256 then (
     bif xnot (xbq false (xcm .leq ↑i ↑n)) then (
      K .ret [.int .u16 opens, .bool false, .int .i64 ↑n, .ptr 0 0, .int .i64 ↑i] [some (.cells [.int .i64 ↑n, .slo 1 0 1 0] none), some (.cells [.ptr 2 0] (some 1)), some (.cells [.ptr 3 0, .nils] none), some (.cells [.int .i64 96, .slo 4 0 n0 0] none), some (.cells c0 (some 2)), some (.cells [.int .i64 ↑i, .int .u64 7] none), some (.cells [.int .i64 (xmn (xmx (xar .sub .i64 ↑n ↑n0) 0) 96), .nils] none), some (.cells [.int .i64 ↑i, .int .u64 7] none)] [])
     else (
      K .ret [.int .u16 opens, .bool false, .int .i64 ↑n, .ptr 0 0, .int .i64 ↑i] [some (.cells [.int .i64 ↑n, .slo 1 0 1 0] none), some (.cells [.ptr 2 0] (some 1)), some (.cells [.ptr 3 0, .nils] none), some (.cells [.int .i64 96, .slo 4 0 n0 0] none), some (.cells c0 (some 2)), some (.cells [.int .i64 ↑i, .int .u64 7] none), some (.cells [.int .i64 (xmn (xmx (xar .sub .i64 ↑n ↑n0) 0) 96), .nils] none), some (.cells [.int .i64 ↑i, .int .u64 7] none)] []))
    else (
     bif xcm .geq 0 (xmn (xmx (xar .sub .i64 ↑n ↑n0) 0) 96) then (
      bif xnot (xbq false (xcm .leq ↑i ↑n)) then (
       K .ret [.int .u16 opens, .bool false, .int .i64 ↑n, .ptr 0 0, .int .i64 ↑i] [some (.cells [.int .i64 ↑n, .slo 1 0 1 0] none), some (.cells [.ptr 2 0] (some 1)), some (.cells [.ptr 3 0, .nils] none), some (.cells [.int .i64 96, .slo 4 0 n0 0] none), some (.cells c0 (some 2)), some (.cells [.int .i64 ↑i, .int .u64 7] none), some (.cells [.int .i64 (xmn (xmx (xar .sub .i64 ↑n ↑n0) 0) 96), .nils] none), some (.cells [.int .i64 ↑i, .int .u64 7] none)] [])
      else (
       bif xcm .neq (xar .sub .i64 ↑n ↑n0) (xmx 0 (xar .sub .i64 ↑n ↑i)) then (
        K .ret [.int .u16 opens, .bool false, .int .i64 ↑n, .ptr 0 0, .int .i64 ↑i] [some (.cells [.int .i64 ↑n, .slo 1 0 1 0] none), some (.cells [.ptr 2 0] (some 1)), some (.cells [.ptr 3 0, .nils] none), some (.cells [.int .i64 96, .slo 4 0 n0 0] none), some (.cells c0 (some 2)), some (.cells [.int .i64 ↑i, .int .u64 7] none), some (.cells [.int .i64 (xmn (xmx (xar .sub .i64 ↑n ↑n0) 0) 96), .nils] none), some (.cells [.int .i64 ↑i, .int .u64 7] none)] [])
       else (
        K .normal [.int .u16 opens, .any, .int .i64 ↑n, .ptr 0 0, .int .i64 ↑i] [some (.cells [.int .i64 ↑n, .slo 1 0 1 0] none), some (.cells [.ptr 2 0] (some 1)), some (.cells [.ptr 3 0, .nils] none), some (.cells [.int .i64 96, .slo 4 0 n0 0] none), some (.cells c0 (some 2)), some (.cells [.int .i64 ↑i, .int .u64 7] none), some (.cells [.int .i64 (xmn (xmx (xar .sub .i64 ↑n ↑n0) 0) 96), .nils] none), some (.cells [.int .i64 ↑i, .int .u64 7] none)] [])))
     else (
      bif okC c0 n0 then
      bif xle (xadd n0 1) 1000000 then
      bif xnot (xbq (xcm .eql (putE 96 n0 c0 (↑i) 7) 0) (xcm .leq ↑i ↑n)) then (
       K .ret [.int .u16 opens, .bool false, .int .i64 ↑n, .ptr 0 0, .int .i64 ↑i] [some (.cells [.int .i64 ↑n, .slo 1 0 1 0] none), some (.cells [.ptr 2 0] (some 1)), some (.cells [.ptr 3 0, .nils] none), some (.cells [.int .i64 96, .slo 10 0 (tk1N 96 n0 c0 (↑i) 7) 0] none), some .dead, some (.cells [.int .i64 ↑i, .int .u64 7] none), some (.cells [.int .i64 (xmn (xmx (xar .sub .i64 ↑n ↑n0) 0) 96), .slo 9 0 1 0] none), some (.cells [.int .i64 ↑i, .int .u64 7] none), some (.cells [.int .i64 ↑i, .int .u64 7] none), some (.cells [.int .i64 ↑i, .int .u64 7] (some 2)), some (.cells (tk1C 96 n0 c0 (↑i) 7) (some 2))] [])
      else (
       bif xcm .neq (putE 96 n0 c0 (↑i) 7) 0 then (
        bif xcm .neq (putE 96 n0 c0 (↑i) 7) 5 then (
         K .ret [.int .u16 opens, .bool false, .int .i64 ↑n, .ptr 0 0, .int .i64 ↑i] [some (.cells [.int .i64 ↑n, .slo 1 0 1 0] none), some (.cells [.ptr 2 0] (some 1)), some (.cells [.ptr 3 0, .nils] none), some (.cells [.int .i64 96, .slo 10 0 (tk1N 96 n0 c0 (↑i) 7) 0] none), some .dead, some (.cells [.int .i64 ↑i, .int .u64 7] none), some (.cells [.int .i64 (xmn (xmx (xar .sub .i64 ↑n ↑n0) 0) 96), .slo 9 0 1 0] none), some (.cells [.int .i64 ↑i, .int .u64 7] none), some (.cells [.int .i64 ↑i, .int .u64 7] none), some (.cells [.int .i64 ↑i, .int .u64 7] (some 2)), some (.cells (tk1C 96 n0 c0 (↑i) 7) (some 2))] [])
        else (
         bif xcm .neq (xar .sub .i64 ↑n ↑(tk1N 96 n0 c0 (↑i) 7)) (xmx 0 (xar .sub .i64 ↑n ↑i)) then (
          K .ret [.int .u16 opens, .bool false, .int .i64 ↑n, .ptr 0 0, .int .i64 ↑i] [some (.cells [.int .i64 ↑n, .slo 1 0 1 0] none), some (.cells [.ptr 2 0] (some 1)), some (.cells [.ptr 3 0, .nils] none), some (.cells [.int .i64 96, .slo 10 0 (tk1N 96 n0 c0 (↑i) 7) 0] none), some .dead, some (.cells [.int .i64 ↑i, .int .u64 7] none), some (.cells [.int .i64 (xmn (xmx (xar .sub .i64 ↑n ↑n0) 0) 96), .slo 9 0 1 0] none), some (.cells [.int .i64 ↑i, .int .u64 7] none), some (.cells [.int .i64 ↑i, .int .u64 7] none), some (.cells [.int .i64 ↑i, .int .u64 7] (some 2)), some (.cells (tk1C 96 n0 c0 (↑i) 7) (some 2))] [])
         else (
          K .normal [.int .u16 opens, .any, .int .i64 ↑n, .ptr 0 0, .int .i64 ↑i] [some (.cells [.int .i64 ↑n, .slo 1 0 1 0] none), some (.cells [.ptr 2 0] (some 1)), some (.cells [.ptr 3 0, .nils] none), some (.cells [.int .i64 96, .slo 10 0 (tk1N 96 n0 c0 (↑i) 7) 0] none), some .dead, some (.cells [.int .i64 ↑i, .int .u64 7] none), some (.cells [.int .i64 (xmn (xmx (xar .sub .i64 ↑n ↑n0) 0) 96), .slo 9 0 1 0] none), some (.cells [.int .i64 ↑i, .int .u64 7] none), some (.cells [.int .i64 ↑i, .int .u64 7] none), some (.cells [.int .i64 ↑i, .int .u64 7] (some 2)), some (.cells (tk1C 96 n0 c0 (↑i) 7) (some 2))] [])))
       else (
        bif xcm .neq (xar .sub .i64 ↑n ↑(tk1N 96 n0 c0 (↑i) 7)) (xmx 0 (xar .sub .i64 ↑n ↑i)) then (
         K .ret [.int .u16 opens, .bool false, .int .i64 ↑n, .ptr 0 0, .int .i64 ↑i] [some (.cells [.int .i64 ↑n, .slo 1 0 1 0] none), some (.cells [.ptr 2 0] (some 1)), some (.cells [.ptr 3 0, .nils] none), some (.cells [.int .i64 96, .slo 10 0 (tk1N 96 n0 c0 (↑i) 7) 0] none), some .dead, some (.cells [.int .i64 ↑i, .int .u64 7] none), some (.cells [.int .i64 (xmn (xmx (xar .sub .i64 ↑n ↑n0) 0) 96), .slo 9 0 1 0] none), some (.cells [.int .i64 ↑i, .int .u64 7] none), some (.cells [.int .i64 ↑i, .int .u64 7] none), some (.cells [.int .i64 ↑i, .int .u64 7] (some 2)), some (.cells (tk1C 96 n0 c0 (↑i) 7) (some 2))] [])
        else (
         K .normal [.int .u16 opens, .any, .int .i64 ↑n, .ptr 0 0, .int .i64 ↑i] [some (.cells [.int .i64 ↑n, .slo 1 0 1 0] none), some (.cells [.ptr 2 0] (some 1)), some (.cells [.ptr 3 0, .nils] none), some (.cells [.int .i64 96, .slo 10 0 (tk1N 96 n0 c0 (↑i) 7) 0] none), some .dead, some (.cells [.int .i64 ↑i, .int .u64 7] none), some (.cells [.int .i64 (xmn (xmx (xar .sub .i64 ↑n ↑n0) 0) 96), .slo 9 0 1 0] none), some (.cells [.int .i64 ↑i, .int .u64 7] none), some (.cells [.int .i64 ↑i, .int .u64 7] none), some (.cells [.int .i64 ↑i, .int .u64 7] (some 2)), some (.cells (tk1C 96 n0 c0 (↑i) 7) (some 2))] [])))
      else False
      else False))))
  else False) := by kernel_rfl
theorem rm2_p (opens : Int) (n i : Nat) (n0 : Nat) (c0 : List LV) (n1 : Nat) (c1 : List LV) (K : Pk) : (xsp Go.Proofs.Try.prog cxr9 100 100 ((spineL (blockIn (nthC (spineL (loopOf (nthC (sp Go.Proofs.Try.prog 8) 8))) 2))).drop 2) (mkTm 100 (rmT opens n i)) (mkS (rmH2 n n0 c0 n1 c1)) (vK rmL K)) = (
  bif okC c1 n1 then
  bif xcm .geq (fndW c1 ↑i) 0 then (
   bif xnn (fndW c1 ↑i) then
   bif xle (xadd (xnat (fndW c1 ↑i)) 1) n1 then
   bif xle (xadd (xadd (xix 0 (xnat (fndW c1 ↑i)) 2) 1) 1) (xln c1) then
   bif isI .u64 (nthD c1 (xadd (xix 0 (xnat (fndW c1 ↑i)) 2) 1)) then
   bif okC c1 n1 then
   bif xle (xadd n1 1) 1000000 then
   bif xnot (xbq (xcm .eql (putE 96 n1 c1 (↑i) 7) 0) (xcm .leq ↑i ↑n)) then (
    K .ret [.int .u16 opens, .bool false, .int .i64 ↑n, .ptr 0 0, .int .i64 ↑i] [some (.cells [.int .i64 ↑n, .slo 1 0 2 0] none), some (.cells [.ptr 2 0, .ptr 5 0] (some 1)), some (.cells [.ptr 3 0, .nils] none), some (.cells [.int .i64 96, .slo 4 0 n0 0] none), some (.cells c0 (some 2)), some (.cells [.ptr 6 0, .nils] none), some (.cells [.int .i64 96, .slo 11 0 (tk1N 96 n1 c1 (↑i) 7) 0] none), some .dead, some (.cells [.int .i64 ↑i, .int .u64 7] none), some (.cells [.int .i64 (xmn (xmx (xar .sub .i64 (xar .sub .i64 ↑n ↑n0) ↑n1) 0) 96), .nils] none), some (.cells [.int .i64 ↑i, .int .u64 7] none), some (.cells (tk1C 96 n1 c1 (↑i) 7) (some 2))] [])
   else (
    bif xcm .neq (putE 96 n1 c1 (↑i) 7) 0 then (
     bif xcm .neq (putE 96 n1 c1 (↑i) 7) 5 then (
      K .ret [.int .u16 opens, .bool false, .int .i64 ↑n, .ptr 0 0, .int .i64 ↑i] [some (.cells [.int .i64 ↑n, .slo 1 0 2 0] none), some (.cells [.ptr 2 0, .ptr 5 0] (some 1)), some (.cells [.ptr 3 0, .nils] none), some (.cells [.int .i64 96, .slo 4 0 n0 0] none), some (.cells c0 (some 2)), some (.cells [.ptr 6 0, .nils] none), some (.cells [.int .i64 96, .slo 11 0 (tk1N 96 n1 c1 (↑i) 7) 0] none), some .dead, some (.cells [.int .i64 ↑i, .int .u64 7] none), some (.cells [.int .i64 (xmn (xmx (xar .sub .i64 (xar .sub .i64 ↑n ↑n0) ↑n1) 0) 96), .nils] none), some (.cells [.int .i64 ↑i, .int .u64 7] none), some (.cells (tk1C 96 n1 c1 (↑i) 7) (some 2))] [])
     else (
      bif xcm .neq (xar .sub .i64 (xar .sub .i64 ↑n ↑n0) ↑(tk1N 96 n1 c1 (↑i) 7)) (xmx 0 (xar .sub .i64 ↑n ↑i)) then (
       K .ret [.int .u16 opens, .bool false, .int .i64 ↑n, .ptr 0 0, .int .i64 ↑i] [some (.cells [.int .i64 ↑n, .slo 1 0 2 0] none), some (.cells [.ptr 2 0, .ptr 5 0] (some 1)), some (.cells [.ptr 3 0, .nils] none), some (.cells [.int .i64 96, .slo 4 0 n0 0] none), some (.cells c0 (some 2)), some (.cells [.ptr 6 0, .nils] none), some (.cells [.int .i64 96, .slo 11 0 (tk1N 96 n1 c1 (↑i) 7) 0] none), some .dead, some (.cells [.int .i64 ↑i, .int .u64 7] none), some (.cells [.int .i64 (xmn (xmx (xar .sub .i64 (xar .sub .i64 ↑n ↑n0) ↑n1) 0) 96), .nils] none), some (.cells [.int .i64 ↑i, .int .u64 7] none), some (.cells (tk1C 96 n1 c1 (↑i) 7) (some 2))] [])
      else (
       K .normal [.int .u16 opens, .any, .int .i64 ↑n, .ptr 0 0, .int .i64 ↑i] [some (.cells [.int .i64 ↑n, .slo 1 0 2 0] none), some (.cells [.ptr 2 0, .ptr 5 0] (some 1)), some (.cells [.ptr 3 0, .nils] none), some (.cells [.int .i64 96, .slo 4 0 n0 0] none), some (.cells c0 (some 2)), some (.cells [.ptr 6 0, .nils] none), some (.cells [.int .i64 96, .slo 11 0 (tk1N 96 n1 c1 (↑i) 7) 0] none), some .dead, some (.cells [.int .i64 ↑i, .int .u64 7] none), some (.cells [.int .i64 (xmn (xmx (xar .sub .i64 (xar .sub .i64 ↑n ↑n0) ↑n1) 0) 96), .nils] none), some (.cells [.int .i64 ↑i, .int .u64 7] none), some (.cells (tk1C 96 n1 c1 (↑i) 7) (some 2))] [])))
    else (
     bif xcm .neq (xar .sub .i64 (xar .sub .i64 ↑n ↑n0) ↑(tk1N 96 n1 c1 (↑i) 7)) (xmx 0 (xar .sub .i64 ↑n ↑i)) then (
      K .ret [.int .u16 opens, .bool false, .int .i64 ↑n, .ptr 0 0, .int .i64 ↑i] [some (.cells [.int .i64 ↑n, .slo 1 0 2 0] none), some (.cells [.ptr 2 0, .ptr 5 0] (some 1)), some (.cells [.ptr 3 0, .nils] none), some (.cells [.int .i64 96, .slo 4 0 n0 0] none), some (.cells c0 (some 2)), some (.cells [.ptr 6 0, .nils] none), some (.cells [.int .i64 96, .slo 11 0 (tk1N 96 n1 c1 (↑i) 7) 0] none), some .dead, some (.cells [.int .i64 ↑i, .int .u64 7] none), some (.cells [.int .i64 (xmn (xmx (xar .sub .i64 (xar .sub .i64 ↑n ↑n0) ↑n1) 0) 96), .nils] none), some (.cells [.int .i64 ↑i, .int .u64 7] none), some (.cells (tk1C 96 n1 c1 (↑i) 7) (some 2))] [])
     else (
      K .normal [.int .u16 opens, .any, .int .i64 ↑n, .ptr 0 0, .int .i64 ↑i] [some (.cells [.int .i64 ↑n, .slo 1 0 2 0] none), some (.cells [.ptr 2 0, .ptr 5 0] (some 1)), some (.cells [.ptr 3 0, .nils] none), some (.cells [.int .i64 96, .slo 4 0 n0 0] none), some (.cells c0 (some 2)), some (.cells [.ptr 6 0, .nils] none), some (.cells [.int .i64 96, .slo 11 0 (tk1N 96 n1 c1 (↑i) 7) 0] none), some .dead, some (.cells [.int .i64 ↑i, .int .u64 7] none), some (.cells [.int .i64 (xmn (xmx (xar .sub .i64 (xar .sub .i64 ↑n ↑n0) ↑n1) 0) 96), .nils] none), some (.cells [.int .i64 ↑i, .int .u64 7] none), some (.cells (tk1C 96 n1 c1 (↑i) 7) (some 2))] [])))
   else False
   else False
   else False
   else False
   else False
   else False)
  else (
   bif xcm .lss (↑i) 1 then (
    bif xnot (xbq false (xcm .leq ↑i ↑n)) then (
     K .ret [.int .u16 opens, .bool false, .int .i64 ↑n, .ptr 0 0, .int .i64 ↑i] [some (.cells [.int .i64 ↑n, .slo 1 0 2 0] none), some (.cells [.ptr 2 0, .ptr 5 0] (some 1)), some (.cells [.ptr 3 0, .nils] none), some (.cells [.int .i64 96, .slo 4 0 n0 0] none), some (.cells c0 (some 2)), some (.cells [.ptr 6 0, .nils] none), some (.cells [.int .i64 96, .slo 7 0 n1 0] none), some (.cells c1 (some 2)), some (.cells [.int .i64 ↑i, .int .u64 7] none), some (.cells [.int .i64 (xmn (xmx (xar .sub .i64 (xar .sub .i64 ↑n ↑n0) ↑n1) 0) 96), .nils] none), some (.cells [.int .i64 ↑i, .int .u64 7] none)] [])
    else (
     K .ret [.int .u16 opens, .bool false, .int .i64 ↑n, .ptr 0 0, .int .i64 ↑i] [some (.cells [.int .i64 ↑n, .slo 1 0 2 0] none), some (.cells [.ptr 2 0, .ptr 5 0] (some 1)), some (.cells [.ptr 3 0, .nils] none), some (.cells [.int .i64 96, .slo 4 0 n0 0] none), some (.cells c0 (some 2)), some (.cells [.ptr 6 0, .nils] none), some (.cells [.int .i64 96, .slo 7 0 n1 0] none), some (.cells c1 (some 2)), some (.cells [.int .i64 ↑i, .int .u64 7] none), some (.cells [.int .i64 (xmn (xmx (xar .sub .i64 (xar .sub .i64 ↑n ↑n0) ↑n1) 0) 96), .nils] none), some (.cells [.int .i64 ↑i, .int .u64 7] none)] []))
   else (
    bif xcm .geq (↑i) 256 then (
     bif xnot (xbq false (xcm .leq ↑i ↑n)) then (
      K .ret [.int .u16 opens, .bool false, .int .i64 ↑n, .ptr 0 0, .int .i64 ↑i] [some (.cells [.int .i64 ↑n, .slo 1 0 2 0] none), some (.cells [.ptr 2 0, .ptr 5 0] (some 1)), some (.cells [.ptr 3 0, .nils] none), some (.cells [.int .i64 96, .slo 4 0 n0 0] none), some (.cells c0 (some 2)), some (.cells [.ptr 6 0, .nils] none), some (.cells [.int .i64 96, .slo 7 0 n1 0] none), some (.cells c1 (some 2)), some (.cells [.int .i64 ↑i, .int .u64 7] none), some (.cells [.int .i64 (xmn (xmx (xar .sub .i64 (xar .sub .i64 ↑n ↑n0) ↑n1) 0) 96), .nils] none), some (.cells [.int .i64 ↑i, .int .u64 7] none)] [])
     else (
      K .ret [.int .u16 opens, .bool false, .int .i64 ↑n, .ptr 0 0, .int .i64 ↑i] [some (.cells [.int .i64 ↑n, .slo 1 0 2 0] none), some (.cells [.ptr 2 0, .ptr 5 0] (some 1)), some (.cells [.ptr 3 0, .nils] none), some (.cells [.int .i64 96, .slo 4 0 n0 0] none), some (.cells c0 (some 2)), some (.cells [.ptr 6 0, .nils] none), some (.cells [.int .i64 96, .slo 7 0 n1 0] none), some (.cells c1 (some 2)), some (.cells [.int .i64 ↑i, .int .u64 7] none), some (.cells [.int .i64 (xmn (xmx (xar .sub .i64 (xar .sub .i64 ↑n ↑n0) ↑n1) 0) 96), .nils] none), some (.cells [.int .i64 ↑i, .int .u64 7] none)] []))
    else (
     bif xcm .geq 0 (xmn (xmx (xar .sub .i64 (xar .sub .i64 ↑n ↑n0) ↑n1) 0) 96) then (
      bif xnot (xbq false (xcm .leq ↑i ↑n)) then (
       K .ret [.int .u16 opens, .bool false, .int .i64 ↑n, .ptr 0 0, .int .i64 ↑i] [some (.cells [.int .i64 ↑n, .slo 1 0 2 0] none), some (.cells [.ptr 2 0, .ptr 5 0] (some 1)), some (.cells [.ptr 3 0, .nils] none), some (.cells [.int .i64 96, .slo 4 0 n0 0] none), some (.cells c0 (some 2)), some (.cells [.ptr 6 0, .nils] none), some (.cells [.int .i64 96, .slo 7 0 n1 0] none), some (.cells c1 (some 2)), some (.cells [.int .i64 ↑i, .int .u64 7] none), some (.cells [.int .i64 (xmn (xmx (xar .sub .i64 (xar .sub .i64 ↑n ↑n0) ↑n1) 0) 96), .nils] none), some (.cells [.int .i64 ↑i, .int .u64 7] none)] [])
      else (
       bif xcm .neq (xar .sub .i64 (xar .sub .i64 ↑n ↑n0) ↑n1) (xmx 0 (xar .sub .i64 ↑n ↑i)) then (
        K .ret [.int .u16 opens, .bool false, .int .i64 ↑n, .ptr 0 0, .int .i64 ↑i] [some (.cells [.int .i64 ↑n, .slo 1 0 2 0] none), some (.cells [.ptr 2 0, .ptr 5 0] (some 1)), some (.cells [.ptr 3 0, .nils] none), some (.cells [.int .i64 96, .slo 4 0 n0 0] none), some (.cells c0 (some 2)), some (.cells [.ptr 6 0, .nils] none), some (.cells [.int .i64 96, .slo 7 0 n1 0] none), some (.cells c1 (some 2)), some (.cells [.int .i64 ↑i, .int .u64 7] none), some (.cells [.int .i64 (xmn (xmx (xar .sub .i64 (xar .sub .i64 ↑n ↑n0) ↑n1) 0) 96), .nils] none), some (.cells [.int .i64 ↑i, .int .u64 7] none)] [])
       else (
        K .normal [.int .u16 opens, .any, .int .i64 ↑n, .ptr 0 0, .int .i64 ↑i] [some (.cells [.int .i64 ↑n, .slo 1 0 2 0] none), some (.cells [.ptr 2 0, .ptr 5 0] (some 1)), some (.cells [.ptr 3 0, .nils] none), some (.cells [.int .i64 96, .slo 4 0 n0 0] none), some (.cells c0 (some 2)), some (.cells [.ptr 6 0, .nils] none), some (.cells [.int .i64 96, .slo 7 0 n1 0] none), some (.cells c1 (some 2)), some (.cells [.int .i64 ↑i, .int .u64 7] none), some (.cells [.int .i64 (xmn (xmx (xar .sub .i64 (xar .sub .i64 ↑n ↑n0) ↑n1) 0) 96), .nils] none), some (.cells [.int .i64 ↑i, .int .u64 7] none)] [])))
     else (
      bif okC c1 n1 then
      bif xle (xadd n1 1) 1000000 then
      bif xnot (xbq (xcm .eql (putE 96 n1 c1 (↑i) 7) 0) (xcm .leq ↑i ↑n)) then (
       K .ret [.int .u16 opens, .bool false, .int .i64 ↑n, .ptr 0 0, .int .i64 ↑i] [some (.cells [.int .i64 ↑n, .slo 1 0 2 0] none), some (.cells [.ptr 2 0, .ptr 5 0] (some 1)), some (.cells [.ptr 3 0, .nils] none), some (.cells [.int .i64 96, .slo 4 0 n0 0] none), some (.cells c0 (some 2)), some (.cells [.ptr 6 0, .nils] none), some (.cells [.int .i64 96, .slo 13 0 (tk1N 96 n1 c1 (↑i) 7) 0] none), some .dead, some (.cells [.int .i64 ↑i, .int .u64 7] none), some (.cells [.int .i64 (xmn (xmx (xar .sub .i64 (xar .sub .i64 ↑n ↑n0) ↑n1) 0) 96), .slo 12 0 1 0] none), some (.cells [.int .i64 ↑i, .int .u64 7] none), some (.cells [.int .i64 ↑i, .int .u64 7] none), some (.cells [.int .i64 ↑i, .int .u64 7] (some 2)), some (.cells (tk1C 96 n1 c1 (↑i) 7) (some 2))] [])
      else (
       bif xcm .neq (putE 96 n1 c1 (↑i) 7) 0 then (
        bif xcm .neq (putE 96 n1 c1 (↑i) 7) 5 then (
         K .ret [.int .u16 opens, .bool false, .int .i64 ↑n, .ptr 0 0, .int .i64 ↑i] [some (.cells [.int .i64 ↑n, .slo 1 0 2 0] none), some (.cells [.ptr 2 0, .ptr 5 0] (some 1)), some (.cells [.ptr 3 0, .nils] none), some (.cells [.int .i64 96, .slo 4 0 n0 0] none), some (.cells c0 (some 2)), some (.cells [.ptr 6 0, .nils] none), some (.cells [.int .i64 96, .slo 13 0 (tk1N 96 n1 c1 (↑i) 7) 0] none), some .dead, some (.cells [.int .i64 ↑i, .int .u64 7] none), some (.cells [.int .i64 (xmn (xmx (xar .sub .i64 (xar .sub .i64 ↑n ↑n0) ↑n1) 0) 96), .slo 12 0 1 0] none), some (.cells [.int .i64 ↑i, .int .u64 7] none), some (.cells [.int .i64 ↑i, .int .u64 7] none), some (.cells [.int .i64 ↑i, .int .u64 7] (some 2)), some (.cells (tk1C 96 n1 c1 (↑i) 7) (some 2))] [])
        else (
         bif xcm .neq (xar .sub .i64 (xar .sub .i64 ↑n ↑n0) ↑(tk1N 96 n1 c1 (↑i) 7)) (xmx 0 (xar .sub .i64 ↑n ↑i)) then (
          K .ret [.int .u16 opens, .bool false, .int .i64 ↑n, .ptr 0 0, .int .i64 ↑i] [some (.cells [.int .i64 ↑n, .slo 1 0 2 0] none), some (.cells [.ptr 2 0, .ptr 5 0] (some 1)), some (.cells [.ptr 3 0, .nils] none), some (.cells [.int .i64 96, .slo 4 0 n0 0] none), some (.cells c0 (some 2)), some (.cells [.ptr 6 0, .nils] none), some (.cells [.int .i64 96, .slo 13 0 (tk1N 96 n1 c1 (↑i) 7) 0] none), some .dead, some (.cells [.int .i64 ↑i, .int .u64 7] none), some (.cells [.int .i64 (xmn (xmx (xar .sub .i64 (xar .sub .i64 ↑n ↑n0) ↑n1) 0) 96), .slo 12 0 1 0] none), some (.cells [.int .i64 ↑i, .int .u64 7] none), some (.cells [.int .i64 ↑i, .int .u64 7] none), some (.cells [.int .i64 ↑i, .int .u64 7] (some 2)), some (.cells (tk1C 96 n1 c1 (↑i) 7) (some 2))] [])
         else (
          K .normal [.int .u16 opens, .any, .int .i64 ↑n, .ptr 0 0, .int .i64 ↑i] [some (.cells [.int .i64 ↑n, .slo 1 0 2 0] none), some (.cells [.ptr 2 0, .ptr 5 0] (some 1)), some (.cells [.ptr 3 0, .nils] none), some (.cells [.int .i64 96, .slo 4 0 n0 0] none), some (.cells c0 (some 2)), some (.cells [.ptr 6 0, .nils] none), some (.cells [.int .i64 96, .slo 13 0 (tk1N 96 n1 c1 (↑i) 7) 0] none), some .dead, some (.cells [.int .i64 ↑i, .int .u64 7] none), some (.cells [.int .i64 (xmn (xmx (xar .sub .i64 (xar .sub .i64 ↑n ↑n0) ↑n1) 0) 96), .slo 12 0 1 0] none), some (.cells [.int .i64 ↑i, .int .u64 7] none), some (.cells [.int .i64 ↑i, .int .u64 7] none), some (.cells [.int .i64 ↑i, .int .u64 7] (some 2)), some (.cells (tk1C 96 n1 c1 (↑i) 7) (some 2))] [])))
       else (
        bif xcm .neq (xar .sub .i64 (xar .sub .i64 ↑n ↑n0) ↑(tk1N 96 n1 c1 (↑i) 7)) (xmx 0 (xar .sub .i64 ↑n ↑i)) then (
         K .ret [.int .u16 opens, .bool false, .int .i64 ↑n, .ptr 0 0, .int .i64 ↑i] [some (.cells [.int .i64 ↑n, .slo 1 0 2 0] none), some (.cells [.ptr 2 0, .ptr 5 0] (some 1)), some (.cells [.ptr 3 0, .nils] none), some (.cells [.int .i64 96, .slo 4 0 n0 0] none), some (.cells c0 (some 2)), some (.cells [.ptr 6 0, .nils] none), some (.cells [.int .i64 96, .slo 13 0 (tk1N 96 n1 c1 (↑i) 7) 0] none), some .dead, some (.cells [.int .i64 ↑i, .int .u64 7] none), some (.cells [.int .i64 (xmn (xmx (xar .sub .i64 (xar .sub .i64 ↑n ↑n0) ↑n1) 0) 96), .slo 12 0 1 0] none), some (.cells [.int .i64 ↑i, .int .u64 7] none), some (.cells [.int .i64 ↑i, .int .u64 7] none), some (.cells [.int .i64 ↑i, .int .u64 7] (some 2)), some (.cells (tk1C 96 n1 c1 (↑i) 7) (some 2))] [])
        else (
         K .normal [.int .u16 opens, .any, .int .i64 ↑n, .ptr 0 0, .int .i64 ↑i] [some (.cells [.int .i64 ↑n, .slo 1 0 2 0] none), some (.cells [.ptr 2 0, .ptr 5 0] (some 1)), some (.cells [.ptr 3 0, .nils] none), some (.cells [.int .i64 96, .slo 4 0 n0 0] none), some (.cells c0 (some 2)), some (.cells [.ptr 6 0, .nils] none), some (.cells [.int .i64 96, .slo 13 0 (tk1N 96 n1 c1 (↑i) 7) 0] none), some .dead, some (.cells [.int .i64 ↑i, .int .u64 7] none), some (.cells [.int .i64 (xmn (xmx (xar .sub .i64 (xar .sub .i64 ↑n ↑n0) ↑n1) 0) 96), .slo 12 0 1 0] none), some (.cells [.int .i64 ↑i, .int .u64 7] none), some (.cells [.int .i64 ↑i, .int .u64 7] none), some (.cells [.int .i64 ↑i, .int .u64 7] (some 2)), some (.cells (tk1C 96 n1 c1 (↑i) 7) (some 2))] [])))
      else False
      else False))))
  else False) := by kernel_rfl
theorem rm3_p (opens : Int) (n i : Nat) (n0 : Nat) (c0 : List LV) (n1 : Nat) (c1 : List LV) (n2 : Nat) (c2 : List LV) (K : Pk) : (xsp Go.Proofs.Try.prog cxr9 100 100 ((spineL (blockIn (nthC (spineL (loopOf (nthC (sp Go.Proofs.Try.prog 8) 8))) 2))).drop 2) (mkTm 100 (rmT opens n i)) (mkS (rmH3 n n0 c0 n1 c1 n2 c2)) (vK rmL K)) = (
  bif okC c2 n2 then
  bif xcm .geq (fndW c2 ↑i) 0 then (
   bif xnn (fndW c2 ↑i) then
   bif xle (xadd (xnat (fndW c2 ↑i)) 1) n2 then
   bif xle (xadd (xadd (xix 0 (xnat (fndW c2 ↑i)) 2) 1) 1) (xln c2) then
   bif isI .u64 (nthD c2 (xadd (xix 0 (xnat (fndW c2 ↑i)) 2) 1)) then
   bif okC c2 n2 then
   bif xle (xadd n2 1) 1000000 then
   bif xnot (xbq (xcm .eql (putE 96 n2 c2 (↑i) 7) 0) (xcm .leq ↑i ↑n)) then (
    K .ret [.int .u16 opens, .bool false, .int .i64 ↑n, .ptr 0 0, .int .i64 ↑i] [some (.cells [.int .i64 ↑n, .slo 1 0 3 0] none), some (.cells [.ptr 2 0, .ptr 5 0, .ptr 8 0] (some 1)), some (.cells [.ptr 3 0, .nils] none), some (.cells [.int .i64 96, .slo 4 0 n0 0] none), some (.cells c0 (some 2)), some (.cells [.ptr 6 0, .nils] none), some (.cells [.int .i64 96, .slo 7 0 n1 0] none), some (.cells c1 (some 2)), some (.cells [.ptr 9 0, .nils] none), some (.cells [.int .i64 96, .slo 14 0 (tk1N 96 n2 c2 (↑i) 7) 0] none), some .dead, some (.cells [.int .i64 ↑i, .int .u64 7] none), some (.cells [.int .i64 (xmn (xmx (xar .sub .i64 (xar .sub .i64 (xar .sub .i64 ↑n ↑n0) ↑n1) ↑n2) 0) 96), .nils] none), some (.cells [.int .i64 ↑i, .int .u64 7] none), some (.cells (tk1C 96 n2 c2 (↑i) 7) (some 2))] [])
   else (
    bif xcm .neq (putE 96 n2 c2 (↑i) 7) 0 then (
     bif xcm .neq (putE 96 n2 c2 (↑i) 7) 5 then (
      K .ret [.int .u16 opens, .bool false, .int .i64 ↑n, .ptr 0 0, .int .i64 ↑i] [some (.cells [.int .i64 ↑n, .slo 1 0 3 0] none), some (.cells [.ptr 2 0, .ptr 5 0, .ptr 8 0] (some 1)), some (.cells [.ptr 3 0, .nils] none), some (.cells [.int .i64 96, .slo 4 0 n0 0] none), some (.cells c0 (some 2)), some (.cells [.ptr 6 0, .nils] none), some (.cells [.int .i64 96, .slo 7 0 n1 0] none), some (.cells c1 (some 2)), some (.cells [.ptr 9 0, .nils] none), some (.cells [.int .i64 96, .slo 14 0 (tk1N 96 n2 c2 (↑i) 7) 0] none), some .dead, some (.cells [.int .i64 ↑i, .int .u64 7] none), some (.cells [.int .i64 (xmn (xmx (xar .sub .i64 (xar .sub .i64 (xar .sub .i64 ↑n ↑n0) ↑n1) ↑n2) 0) 96), .nils] none), some (.cells [.int .i64 ↑i, .int .u64 7] none), some (.cells (tk1C 96 n2 c2 (↑i) 7) (some 2))] [])
     else (
      bif xcm .neq (xar .sub .i64 (xar .sub .i64 (xar .sub .i64 ↑n ↑n0) ↑n1) ↑(tk1N 96 n2 c2 (↑i) 7)) (xmx 0 (xar .sub .i64 ↑n ↑i)) then (
       K .ret [.int .u16 opens, .bool false, .int .i64 ↑n, .ptr 0 0, .int .i64 ↑i] [some (.cells [.int .i64 ↑n, .slo 1 0 3 0] none), some (.cells [.ptr 2 0, .ptr 5 0, .ptr 8 0] (some 1)), some (.cells [.ptr 3 0, .nils] none), some (.cells [.int .i64 96, .slo 4 0 n0 0] none), some (.cells c0 (some 2)), some (.cells [.ptr 6 0, .nils] none), some (.cells [.int .i64 96, .slo 7 0 n1 0] none), some (.cells c1 (some 2)), some (.cells [.ptr 9 0, .nils] none), some (.cells [.int .i64 96, .slo 14 0 (tk1N 96 n2 c2 (↑i) 7) 0] none), some .dead, some (.cells [.int .i64 ↑i, .int .u64 7] none), some (.cells [.int .i64 (xmn (xmx (xar .sub .i64 (xar .sub .i64 (xar .sub .i64 ↑n ↑n0) ↑n1) ↑n2) 0) 96), .nils] none), some (.cells [.int .i64 ↑i, .int .u64 7] none), some (.cells (tk1C 96 n2 c2 (↑i) 7) (some 2))] [])
      else (
       K .normal [.int .u16 opens, .any, .int .i64 ↑n, .ptr 0 0, .int .i64 ↑i] [some (.cells [.int .i64 ↑n, .slo 1 0 3 0] none), some (.cells [.ptr 2 0, .ptr 5 0, .ptr 8 0] (some 1)), some (.cells [.ptr 3 0, .nils] none), some (.cells [.int .i64 96, .slo 4 0 n0 0] none), some (.cells c0 (some 2)), some (.cells [.ptr 6 0, .nils] none), some (.cells [.int .i64 96, .slo 7 0 n1 0] none), some (.cells c1 (some 2)), some (.cells [.ptr 9 0, .nils] none), some (.cells [.int .i64 96, .slo 14 0 (tk1N 96 n2 c2 (↑i) 7) 0] none), some .dead, some (.cells [.int .i64 ↑i, .int .u64 7] none), some (.cells [.int .i64 (xmn (xmx (xar .sub .i64 (xar .sub .i64 (xar .sub .i64 ↑n ↑n0) ↑n1) ↑n2) 0) 96), .nils] none), some (.cells [.int .i64 ↑i, .int .u64 7] none), some (.cells (tk1C 96 n2 c2 (↑i) 7) (some 2))] [])))
    else (
     bif xcm .neq (xar .sub .i64 (xar .sub .i64 (xar .sub .i64 ↑n ↑n0) ↑n1) ↑(tk1N 96 n2 c2 (↑i) 7)) (xmx 0 (xar .sub .i64 ↑n ↑i)) then (
      K .ret [.int .u16 opens, .bool false, .int .i64 ↑n, .ptr 0 0, .int .i64 ↑i] [some (.cells [.int .i64 ↑n, .slo 1 0 3 0] none), some (.cells [.ptr 2 0, .ptr 5 0, .ptr 8 0] (some 1)), some (.cells [.ptr 3 0, .nils] none), some (.cells [.int .i64 96, .slo 4 0 n0 0] none), some (.cells c0 (some 2)), some (.cells [.ptr 6 0, .nils] none), some (.cells [.int .i64 96, .slo 7 0 n1 0] none), some (.cells c1 (some 2)), some (.cells [.ptr 9 0, .nils] none), some (.cells [.int .i64 96, .slo 14 0 (tk1N 96 n2 c2 (↑i) 7) 0] none), some .dead, some (.cells [.int .i64 ↑i, .int .u64 7] none), some (.cells [.int .i64 (xmn (xmx (xar .sub .i64 (xar .sub .i64 (xar .sub .i64 ↑n ↑n0) ↑n1) ↑n2) 0) 96), .nils] none), some (.cells [.int .i64 ↑i, .int .u64 7] none), some (.cells (tk1C 96 n2 c2 (↑i) 7) (some 2))] [])
     else (
      K .normal [.int .u16 opens, .any, .int .i64 ↑n, .ptr 0 0, .int .i64 ↑i] [some (.cells [.int .i64 ↑n, .slo 1 0 3 0] none), some (.cells [.ptr 2 0, .ptr 5 0, .ptr 8 0] (some 1)), some (.cells [.ptr 3 0, .nils] none), some (.cells [.int .i64 96, .slo 4 0 n0 0] none), some (.cells c0 (some 2)), some (.cells [.ptr 6 0, .nils] none), some (.cells [.int .i64 96, .slo 7 0 n1 0] none), some (.cells c1 (some 2)), some (.cells [.ptr 9 0, .nils] none), some (.cells [.int .i64 96, .slo 14 0 (tk1N 96 n2 c2 (↑i) 7) 0] none), some .dead, some (.cells [.int .i64 ↑i, .int .u64 7] none), some (.cells [.int .i64 (xmn (xmx (xar .sub .i64 (xar .sub .i64 (xar .sub .i64 ↑n ↑n0) ↑n1) ↑n2) 0) 96), .nils] none), some (.cells [.int .i64 ↑i, .int .u64 7] none), some (.cells (tk1C 96 n2 c2 (↑i) 7) (some 2))] [])))
   else False
   else False
   else False
   else False
   else False
   else False)
  else (
   bif xcm .lss (↑i) 1 then (
    bif xnot (xbq false (xcm .leq ↑i ↑n)) then (
     K .ret [.int .u16 opens, .bool false, .int .i64 ↑n, .ptr 0 0, .int .i64 ↑i] [some (.cells [.int .i64 ↑n, .slo 1 0 3 0] none), some (.cells [.ptr 2 0, .ptr 5 0, .ptr 8 0] (some 1)), some (.cells [.ptr 3 0, .nils] none), some (.cells [.int .i64 96, .slo 4 0 n0 0] none), some (.cells c0 (some 2)), some (.cells [.ptr 6 0, .nils] none), some (.cells [.int .i64 96, .slo 7 0 n1 0] none), some (.cells c1 (some 2)), some (.cells [.ptr 9 0, .nils] none), some (.cells [.int .i64 96, .slo 10 0 n2 0] none), some (.cells c2 (some 2)), some (.cells [.int .i64 ↑i, .int .u64 7] none), some (.cells [.int .i64 (xmn (xmx (xar .sub .i64 (xar .sub .i64 (xar .sub .i64 ↑n ↑n0) ↑n1) ↑n2) 0) 96), .nils] none), some (.cells [.int .i64 ↑i, .int .u64 7] none)] [])
    else (
     K .ret [.int .u16 opens, .bool false, .int .i64 ↑n, .ptr 0 0, .int .i64 ↑i] [some (.cells [.int .i64 ↑n, .slo 1 0 3 0] none), some (.cells [.ptr 2 0, .ptr 5 0, .ptr 8 0] (some 1)), some (.cells [.ptr 3 0, .nils] none), some (.cells [.int .i64 96, .slo 4 0 n0 0] none), some (.cells c0 (some 2)), some (.cells [.ptr 6 0, .nils] none), some (.cells [.int .i64 96, .slo 7 0 n1 0] none), some (.cells c1 (some 2)), some (.cells [.ptr 9 0, .nils] none), some (.cells [.int .i64 96, .slo 10 0 n2 0] none), some (.cells c2 (some 2)), some (.cells [.int .i64 ↑i, .int .u64 7] none), some (.cells [.int .i64 (xmn (xmx (xar .sub .i64 (xar .sub .i64 (xar .sub .i64 ↑n ↑n0) ↑n1) ↑n2) 0) 96), .nils] none), some (.cells [.int .i64 ↑i, .int .u64 7] none)] []))
   else (
    bif xcm .geq (↑i) 256 then (
     bif xnot (xbq false (xcm .leq ↑i ↑n)) then (
      K .ret [.int .u16 opens, .bool false, .int .i64 ↑n, .ptr 0 0, .int .i64 ↑i] [some (.cells [.int .i64 ↑n, .slo 1 0 3 0] none), some (.cells [.ptr 2 0, .ptr 5 0, .ptr 8 0] (some 1)), some (.cells [.ptr 3 0, .nils] none), some (.cells [.int .i64 96, .slo 4 0 n0 0] none), some (.cells c0 (some 2)), some (.cells [.ptr 6 0, .nils] none), some (.cells [.int .i64 96, .slo 7 0 n1 0] none), some (.cells c1 (some 2)), some (.cells [.ptr 9 0, .nils] none), some (.cells [.int .i64 96, .slo 10 0 n2 0] none), some (.cells c2 (some 2)), some (.cells [.int .i64 ↑i, .int .u64 7] none), some (.cells [.int .i64 (xmn (xmx (xar .sub .i64 (xar .sub .i64 (xar .sub .i64 ↑n ↑n0) ↑n1) ↑n2) 0) 96), .nils] none), some (.cells [.int .i64 ↑i, .int .u64 7] none)] [])
     else (
      K .ret [.int .u16 opens, .bool false, .int .i64 ↑n, .ptr 0 0, .int .i64 ↑i] [some (.cells [.int .i64 ↑n, .slo 1 0 3 0] none), some (.cells [.ptr 2 0, .ptr 5 0, .ptr 8 0] (some 1)), some (.cells [.ptr 3 0, .nils] none), some (.cells [.int .i64 96, .slo 4 0 n0 0] none), some (.cells c0 (some 2)), some (.cells [.ptr 6 0, .nils] none), some (.cells [.int .i64 96, .slo 7 0 n1 0] none), some (.cells c1 (some 2)), some (.cells [.ptr 9 0, .nils] none), some (.cells [.int .i64 96, .slo 10 0 n2 0] none), some (.cells c2 (some 2)), some (.cells [.int .i64 ↑i, .int .u64 7] none), some (.cells [.int .i64 (xmn (xmx (xar .sub .i64 (xar .sub .i64 (xar .sub .i64 ↑n ↑n0) ↑n1) ↑n2) 0) 96), .nils] none), some (.cells [.int .i64 ↑i, .int .u64 7] none)] []))
    else (
     bif xcm .geq 0 (xmn (xmx (xar .sub .i64 (xar .sub .i64 (xar .sub .i64 ↑n ↑n0) ↑n1) ↑n2) 0) 96) then (
      bif xnot (xbq false (xcm .leq ↑i ↑n)) then (
       K .ret [.int .u16 opens, .bool false, .int .i64 ↑n, .ptr 0 0, .int .i64 ↑i] [some (.cells [.int .i64 ↑n, .slo 1 0 3 0] none), some (.cells [.ptr 2 0, .ptr 5 0, .ptr 8 0] (some 1)), some (.cells [.ptr 3 0, .nils] none), some (.cells [.int .i64 96, .slo 4 0 n0 0] none), some (.cells c0 (some 2)), some (.cells [.ptr 6 0, .nils] none), some (.cells [.int .i64 96, .slo 7 0 n1 0] none), some (.cells c1 (some 2)), some (.cells [.ptr 9 0, .nils] none), some (.cells [.int .i64 96, .slo 10 0 n2 0] none), some (.cells c2 (some 2)), some (.cells [.int .i64 ↑i, .int .u64 7] none), some (.cells [.int .i64 (xmn (xmx (xar .sub .i64 (xar .sub .i64 (xar .sub .i64 ↑n ↑n0) ↑n1) ↑n2) 0) 96), .nils] none), some (.cells [.int .i64 ↑i, .int .u64 7] none)] [])
      else (
       bif xcm .neq (xar .sub .i64 (xar .sub .i64 (xar .sub .i64 ↑n ↑n0) ↑n1) ↑n2) (xmx 0 (xar .sub .i64 ↑n ↑i)) then (
        K .ret [.int .u16 opens, .bool false, .int .i64 ↑n, .ptr 0 0, .int .i64 ↑i] [some (.cells [.int .i64 ↑n, .slo 1 0 3 0] none), some (.cells [.ptr 2 0, .ptr 5 0, .ptr 8 0] (some 1)), some (.cells [.ptr 3 0, .nils] none), some (.cells [.int .i64 96, .slo 4 0 n0 0] none), some (.cells c0 (some 2)), some (.cells [.ptr 6 0, .nils] none), some (.cells [.int .i64 96, .slo 7 0 n1 0] none), some (.cells c1 (some 2)), some (.cells [.ptr 9 0, .nils] none), some (.cells [.int .i64 96, .slo 10 0 n2 0] none), some (.cells c2 (some 2)), some (.cells [.int .i64 ↑i, .int .u64 7] none), some (.cells [.int .i64 (xmn (xmx (xar .sub .i64 (xar .sub .i64 (xar .sub .i64 ↑n ↑n0) ↑n1) ↑n2) 0) 96), .nils] none), some (.cells [.int .i64 ↑i, .int .u64 7] none)] [])
       else (
        K .normal [.int .u16 opens, .any, .int .i64 ↑n, .ptr 0 0, .int .i64 ↑i] [some (.cells [.int .i64 ↑n, .slo 1 0 3 0] none), some (.cells [.ptr 2 0, .ptr 5 0, .ptr 8 0] (some 1)), some (.cells [.ptr 3 0, .nils] none), some (.cells [.int .i64 96, .slo 4 0 n0 0] none), some (.cells c0 (some 2)), some (.cells [.ptr 6 0, .nils] none), some (.cells [.int .i64 96, .slo 7 0 n1 0] none), some (.cells c1 (some 2)), some (.cells [.ptr 9 0, .nils] none), some (.cells [.int .i64 96, .slo 10 0 n2 0] none), some (.cells c2 (some 2)), some (.cells [.int .i64 ↑i, .int .u64 7] none), some (.cells [.int .i64 (xmn (xmx (xar .sub .i64 (xar .sub .i64 (xar .sub .i64 ↑n ↑n0) ↑n1) ↑n2) 0) 96), .nils] none), some (.cells [.int .i64 ↑i, .int .u64 7] none)] [])))
     else (
      bif okC c2 n2 then
      bif xle (xadd n2 1) 1000000 then
      bif xnot (xbq (xcm .eql (putE 96 n2 c2 (↑i) 7) 0) (xcm .leq ↑i ↑n)) then (
       K .ret [.int .u16 opens, .bool false, .int .i64 ↑n, .ptr 0 0, .int .i64 ↑i] [some (.cells [.int .i64 ↑n, .slo 1 0 3 0] none), some (.cells [.ptr 2 0, .ptr 5 0, .ptr 8 0] (some 1)), some (.cells [.ptr 3 0, .nils] none), some (.cells [.int .i64 96, .slo 4 0 n0 0] none), some (.cells c0 (some 2)), some (.cells [.ptr 6 0, .nils] none), some (.cells [.int .i64 96, .slo 7 0 n1 0] none), some (.cells c1 (some 2)), some (.cells [.ptr 9 0, .nils] none), some (.cells [.int .i64 96, .slo 16 0 (tk1N 96 n2 c2 (↑i) 7) 0] none), some .dead, some (.cells [.int .i64 ↑i, .int .u64 7] none), some (.cells [.int .i64 (xmn (xmx (xar .sub .i64 (xar .sub .i64 (xar .sub .i64 ↑n ↑n0) ↑n1) ↑n2) 0) 96), .slo 15 0 1 0] none), some (.cells [.int .i64 ↑i, .int .u64 7] none), some (.cells [.int .i64 ↑i, .int .u64 7] none), some (.cells [.int .i64 ↑i, .int .u64 7] (some 2)), some (.cells (tk1C 96 n2 c2 (↑i) 7) (some 2))] [])
      else (
       bif xcm .neq (putE 96 n2 c2 (↑i) 7) 0 then (
        bif xcm .neq (putE 96 n2 c2 (↑i) 7) 5 then (
         K .ret [.int .u16 opens, .bool false, .int .i64 ↑n, .ptr 0 0, .int .i64 ↑i] [some (.cells [.int .i64 ↑n, .slo 1 0 3 0] none), some (.cells [.ptr 2 0, .ptr 5 0, .ptr 8 0] (some 1)), some (.cells [.ptr 3 0, .nils] none), some (.cells [.int .i64 96, .slo 4 0 n0 0] none), some (.cells c0 (some 2)), some (.cells [.ptr 6 0, .nils] none), some (.cells [.int .i64 96, .slo 7 0 n1 0] none), some (.cells c1 (some 2)), some (.cells [.ptr 9 0, .nils] none), some (.cells [.int .i64 96, .slo 16 0 (tk1N 96 n2 c2 (↑i) 7) 0] none), some .dead, some (.cells [.int .i64 ↑i, .int .u64 7] none), some (.cells [.int .i64 (xmn (xmx (xar .sub .i64 (xar .sub .i64 (xar .sub .i64 ↑n ↑n0) ↑n1) ↑n2) 0) 96), .slo 15 0 1 0] none), some (.cells [.int .i64 ↑i, .int .u64 7] none), some (.cells [.int .i64 ↑i, .int .u64 7] none), some (.cells [.int .i64 ↑i, .int .u64 7] (some 2)), some (.cells (tk1C 96 n2 c2 (↑i) 7) (some 2))] [])
        else (
         bif xcm .neq (xar .sub .i64 (xar .sub .i64 (xar .sub .i64 ↑n ↑n0) ↑n1) ↑(tk1N 96 n2 c2 (↑i) 7)) (xmx 0 (xar .sub .i64 ↑n ↑i)) then (
          K .ret [.int .u16 opens, .bool false, .int .i64 ↑n, .ptr 0 0, .int .i64 ↑i] [some (.cells [.int .i64 ↑n, .slo 1 0 3 0] none), some (.cells [.ptr 2 0, .ptr 5 0, .ptr 8 0] (some 1)), some (.cells [.ptr 3 0, .nils] none), some (.cells [.int .i64 96, .slo 4 0 n0 0] none), some (.cells c0 (some 2)), some (.cells [.ptr 6 0, .nils] none), some (.cells [.int .i64 96, .slo 7 0 n1 0] none), some (.cells c1 (some 2)), some (.cells [.ptr 9 0, .nils] none), some (.cells [.int .i64 96, .slo 16 0 (tk1N 96 n2 c2 (↑i) 7) 0] none), some .dead, some (.cells [.int .i64 ↑i, .int .u64 7] none), some (.cells [.int .i64 (xmn (xmx (xar .sub .i64 (xar .sub .i64 (xar .sub .i64 ↑n ↑n0) ↑n1) ↑n2) 0) 96), .slo 15 0 1 0] none), some (.cells [.int .i64 ↑i, .int .u64 7] none), some (.cells [.int .i64 ↑i, .int .u64 7] none), some (.cells [.int .i64 ↑i, .int .u64 7] (some 2)), some (.cells (tk1C 96 n2 c2 (↑i) 7) (some 2))] [])
         else (
          K .normal [.int .u16 opens, .any, .int .i64 ↑n, .ptr 0 0, .int .i64 ↑i] [some (.cells [.int .i64 ↑n, .slo 1 0 3 0] none), some (.cells [.ptr 2 0, .ptr 5 0, .ptr 8 0] (some 1)), some (.cells [.ptr 3 0, .nils] none), some (.cells [.int .i64 96, .slo 4 0 n0 0] none), some (.cells c0 (some 2)), some (.cells [.ptr 6 0, .nils] none), some (.cells [.int .i64 96, .slo 7 0 n1 0] none), some (.cells c1 (some 2)), some (.cells [.ptr 9 0, .nils] none), some (.cells [.int .i64 96, .slo 16 0 (tk1N 96 n2 c2 (↑i) 7) 0] none), some .dead, some (.cells [.int .i64 ↑i, .int .u64 7] none), some (.cells [.int .i64 (xmn (xmx (xar .sub .i64 (xar .sub .i64 (xar .sub .i64 ↑n ↑n0) ↑n1) ↑n2) 0) 96), .slo 15 0 1 0] none), some (.cells [.int .i64 ↑i, .int .u64 7] none), some (.cells [.int .i64 ↑i, .int .u64 7] none), some (.cells [.int .i64 ↑i, .int .u64 7] (some 2)), some (.cells (tk1C 96 n2 c2 (↑i) 7) (some 2))] [])))
       else (
        bif xcm .neq (xar .sub .i64 (xar .sub .i64 (xar .sub .i64 ↑n ↑n0) ↑n1) ↑(tk1N 96 n2 c2 (↑i) 7)) (xmx 0 (xar .sub .i64 ↑n ↑i)) then (
         K .ret [.int .u16 opens, .bool false, .int .i64 ↑n, .ptr 0 0, .int .i64 ↑i] [some (.cells [.int .i64 ↑n, .slo 1 0 3 0] none), some (.cells [.ptr 2 0, .ptr 5 0, .ptr 8 0] (some 1)), some (.cells [.ptr 3 0, .nils] none), some (.cells [.int .i64 96, .slo 4 0 n0 0] none), some (.cells c0 (some 2)), some (.cells [.ptr 6 0, .nils] none), some (.cells [.int .i64 96, .slo 7 0 n1 0] none), some (.cells c1 (some 2)), some (.cells [.ptr 9 0, .nils] none), some (.cells [.int .i64 96, .slo 16 0 (tk1N 96 n2 c2 (↑i) 7) 0] none), some .dead, some (.cells [.int .i64 ↑i, .int .u64 7] none), some (.cells [.int .i64 (xmn (xmx (xar .sub .i64 (xar .sub .i64 (xar .sub .i64 ↑n ↑n0) ↑n1) ↑n2) 0) 96), .slo 15 0 1 0] none), some (.cells [.int .i64 ↑i, .int .u64 7] none), some (.cells [.int .i64 ↑i, .int .u64 7] none), some (.cells [.int .i64 ↑i, .int .u64 7] (some 2)), some (.cells (tk1C 96 n2 c2 (↑i) 7) (some 2))] [])
        else (
         K .normal [.int .u16 opens, .any, .int .i64 ↑n, .ptr 0 0, .int .i64 ↑i] [some (.cells [.int .i64 ↑n, .slo 1 0 3 0] none), some (.cells [.ptr 2 0, .ptr 5 0, .ptr 8 0] (some 1)), some (.cells [.ptr 3 0, .nils] none), some (.cells [.int .i64 96, .slo 4 0 n0 0] none), some (.cells c0 (some 2)), some (.cells [.ptr 6 0, .nils] none), some (.cells [.int .i64 96, .slo 7 0 n1 0] none), some (.cells c1 (some 2)), some (.cells [.ptr 9 0, .nils] none), some (.cells [.int .i64 96, .slo 16 0 (tk1N 96 n2 c2 (↑i) 7) 0] none), some .dead, some (.cells [.int .i64 ↑i, .int .u64 7] none), some (.cells [.int .i64 (xmn (xmx (xar .sub .i64 (xar .sub .i64 (xar .sub .i64 ↑n ↑n0) ↑n1) ↑n2) 0) 96), .slo 15 0 1 0] none), some (.cells [.int .i64 ↑i, .int .u64 7] none), some (.cells [.int .i64 ↑i, .int .u64 7] none), some (.cells [.int .i64 ↑i, .int .u64 7] (some 2)), some (.cells (tk1C 96 n2 c2 (↑i) 7) (some 2))] [])))
      else False
      else False))))
  else False) := by kernel_rfl
end
end Go.Lev
