/- LevelsRoom: the end, trees -/
import Derived.Test.YtfigockmbphnfaaCR11
import Derived.Test.YtfigockmbphnfaaLc
import Derived.Test.YtfigockmbphnfaaChecked
import Derived.KernelRfl

namespace Go.Lev
open Go.RowKit
set_option linter.unusedVariables false
set_option linter.unusedSimpArgs false
set_option maxRecDepth 100000
noncomputable section
theorem re1_p (opens : Int) (n i : Nat) (n0 : Nat) (c0 : List LV) (K : Pk) : (xsp Go.Proofs.Try.prog cxr9 100 100 (seg (sp Go.Proofs.Try.prog 8) 9 2) (mkTm 100 (rmT opens n i)) (mkS (rmH1 n n0 c0)) (vK rmL K)) = (
  bif xcm .gtr (↑n) 6 then (
   bif okC c0 n0 then
   bif xcm .geq (fndW c0 ↑n) 0 then (
    bif xnn (fndW c0 ↑n) then
    bif xle (xadd (xnat (fndW c0 ↑n)) 1) n0 then
    bif xle (xadd (xadd (xix 0 (xnat (fndW c0 ↑n)) 2) 1) 1) (xln c0) then
    bif isI .u64 (nthD c0 (xadd (xix 0 (xnat (fndW c0 ↑n)) 2) 1)) then
    bif okC c0 n0 then
    bif xle (xadd n0 1) 1000000 then
    bif xcm .neq (putE 96 n0 c0 (↑n) 8) 0 then (
     K .ret [.int .u16 opens, .bool false, .int .i64 ↑n, .ptr 0 0, .int .i64 ↑i] [some (.cells [.int .i64 ↑n, .slo 1 0 1 0] none), some (.cells [.ptr 2 0] (some 1)), some (.cells [.ptr 3 0, .nils] none), some (.cells [.int .i64 96, .slo 8 0 (tk1N 96 n0 c0 (↑n) 8) 0] none), some .dead, some (.cells [.int .i64 ↑n, .int .u64 8] none), some (.cells [.int .i64 (xmn (xmx (xar .sub .i64 ↑n ↑n0) 0) 96), .nils] none), some (.cells [.int .i64 ↑n, .int .u64 8] none), some (.cells (tk1C 96 n0 c0 (↑n) 8) (some 2))] [])
    else (
     bif xcm .neq (xar .sub .i64 ↑n ↑(tk1N 96 n0 c0 (↑n) 8)) 0 then (
      K .ret [.int .u16 opens, .bool false, .int .i64 ↑n, .ptr 0 0, .int .i64 ↑i] [some (.cells [.int .i64 ↑n, .slo 1 0 1 0] none), some (.cells [.ptr 2 0] (some 1)), some (.cells [.ptr 3 0, .nils] none), some (.cells [.int .i64 96, .slo 8 0 (tk1N 96 n0 c0 (↑n) 8) 0] none), some .dead, some (.cells [.int .i64 ↑n, .int .u64 8] none), some (.cells [.int .i64 (xmn (xmx (xar .sub .i64 ↑n ↑n0) 0) 96), .nils] none), some (.cells [.int .i64 ↑n, .int .u64 8] none), some (.cells (tk1C 96 n0 c0 (↑n) 8) (some 2))] [])
     else (
      K .normal [.int .u16 opens, .any, .int .i64 ↑n, .ptr 0 0, .int .i64 ↑i] [some (.cells [.int .i64 ↑n, .slo 1 0 1 0] none), some (.cells [.ptr 2 0] (some 1)), some (.cells [.ptr 3 0, .nils] none), some (.cells [.int .i64 96, .slo 8 0 (tk1N 96 n0 c0 (↑n) 8) 0] none), some .dead, some (.cells [.int .i64 ↑n, .int .u64 8] none), some (.cells [.int .i64 (xmn (xmx (xar .sub .i64 ↑n ↑n0) 0) 96), .nils] none), some (.cells [.int .i64 ↑n, .int .u64 8] none), some (.cells (tk1C 96 n0 c0 (↑n) 8) (some 2))] []))
    else False
    else False
    else False
    else False
    else False
    else False)
   else (
    bif xcm .lss (↑n) 1 then (
     K .ret [.int .u16 opens, .bool false, .int .i64 ↑n, .ptr 0 0, .int .i64 ↑i] [some (.cells [.int .i64 ↑n, .slo 1 0 1 0] none), some (.cells [.ptr 2 0] (some 1)), some (.cells [.ptr 3 0, .nils] none), some (.cells [.int .i64 96, .slo 4 0 n0 0] none), some (.cells c0 (some 2)), some (.cells [.int .i64 ↑n, .int .u64 8] none), some (.cells [.int .i64 (xmn (xmx (xar .sub .i64 ↑n ↑n0) 0) 96), .nils] none), some (.cells [.int .i64 ↑n, .int .u64 8] none)] [])
    else (
     bif xcm .geq (↑n) 256 then (
      K .ret [.int .u16 opens, .bool false, .int .i64 ↑n, .ptr 0 0, .int .i64 ↑i] [some (.cells [.int .i64 ↑n, .slo 1 0 1 0] none), some (.cells [.ptr 2 0] (some 1)), some (.cells [.ptr 3 0, .nils] none), some (.cells [.int .i64 96, .slo 4 0 n0 0] none), some (.cells c0 (some 2)), some (.cells [.int .i64 ↑n, .int .u64 8] none), some (.cells [.int .i64 (xmn (xmx (xar .sub .i64 ↑n ↑n0) 0) 96), .nils] none), some (.cells [.int .i64 ↑n, .int .u64 8] none)] [])
     else (
      bif xcm .geq 0 (xmn (xmx (xar .sub .i64 ↑n ↑n0) 0) 96) then (
       K .ret [.int .u16 opens, .bool false, .int .i64 ↑n, .ptr 0 0, .int .i64 ↑i] [some (.cells [.int .i64 ↑n, .slo 1 0 1 0] none), some (.cells [.ptr 2 0] (some 1)), some (.cells [.ptr 3 0, .nils] none), some (.cells [.int .i64 96, .slo 4 0 n0 0] none), some (.cells c0 (some 2)), some (.cells [.int .i64 ↑n, .int .u64 8] none), some (.cells [.int .i64 (xmn (xmx (xar .sub .i64 ↑n ↑n0) 0) 96), .nils] none), some (.cells [.int .i64 ↑n, .int .u64 8] none)] [])
      else (
       bif okC c0 n0 then
       bif xle (xadd n0 1) 1000000 then
       bif xcm .neq (putE 96 n0 c0 (↑n) 8) 0 then (
        K .ret [.int .u16 opens, .bool false, .int .i64 ↑n, .ptr 0 0, .int .i64 ↑i] [some (.cells [.int .i64 ↑n, .slo 1 0 1 0] none), some (.cells [.ptr 2 0] (some 1)), some (.cells [.ptr 3 0, .nils] none), some (.cells [.int .i64 96, .slo 10 0 (tk1N 96 n0 c0 (↑n) 8) 0] none), some .dead, some (.cells [.int .i64 ↑n, .int .u64 8] none), some (.cells [.int .i64 (xmn (xmx (xar .sub .i64 ↑n ↑n0) 0) 96), .slo 9 0 1 0] none), some (.cells [.int .i64 ↑n, .int .u64 8] none), some (.cells [.int .i64 ↑n, .int .u64 8] none), some (.cells [.int .i64 ↑n, .int .u64 8] (some 2)), some (.cells (tk1C 96 n0 c0 (↑n) 8) (some 2))] [])
       else (
        bif xcm .neq (xar .sub .i64 ↑n ↑(tk1N 96 n0 c0 (↑n) 8)) 0 then (
         K .ret [.int .u16 opens, .bool false, .int .i64 ↑n, .ptr 0 0, .int .i64 ↑i] [some (.cells [.int .i64 ↑n, .slo 1 0 1 0] none), some (.cells [.ptr 2 0] (some 1)), some (.cells [.ptr 3 0, .nils] none), some (.cells [.int .i64 96, .slo 10 0 (tk1N 96 n0 c0 (↑n) 8) 0] none), some .dead, some (.cells [.int .i64 ↑n, .int .u64 8] none), some (.cells [.int .i64 (xmn (xmx (xar .sub .i64 ↑n ↑n0) 0) 96), .slo 9 0 1 0] none), some (.cells [.int .i64 ↑n, .int .u64 8] none), some (.cells [.int .i64 ↑n, .int .u64 8] none), some (.cells [.int .i64 ↑n, .int .u64 8] (some 2)), some (.cells (tk1C 96 n0 c0 (↑n) 8) (some 2))] [])
        else (
         K .normal [.int .u16 opens, .any, .int .i64 ↑n, .ptr 0 0, .int .i64 ↑i] [some (.cells [.int .i64 ↑n, .slo 1 0 1 0] none), some (.cells [.ptr 2 0] (some 1)), some (.cells [.ptr 3 0, .nils] none), some (.cells [.int .i64 96, .slo 10 0 (tk1N 96 n0 c0 (↑n) 8) 0] none), some .dead, some (.cells [.int .i64 ↑n, .int .u64 8] none), some (.cells [.int .i64 (xmn (xmx (xar .sub .i64 ↑n ↑n0) 0) 96), .slo 9 0 1 0] none), some (.cells [.int .i64 ↑n, .int .u64 8] none), some (.cells [.int .i64 ↑n, .int .u64 8] none), some (.cells [.int .i64 ↑n, .int .u64 8] (some 2)), some (.cells (tk1C 96 n0 c0 (↑n) 8) (some 2))] []))
       else False
       else False))))
   else False)
  else (
   K .normal [.int .u16 opens, .any, .int .i64 ↑n, .ptr 0 0, .int .i64 ↑i] [some (.cells [.int .i64 ↑n, .slo 1 0 1 0] none), some (.cells [.ptr 2 0] (some 1)), some (.cells [.ptr 3 0, .nils] none), some (.cells [.int .i64 96, .slo 4 0 n0 0] none), some (.cells c0 (some 2))] [])) := by kernel_rfl
theorem re1_z (opens : Int) (n i : Nat) (n0 : Nat) (c0 : List LV) (K : Pk) : (xsp Go.Proofs.Try.prog cxr9 100 100 ((sp Go.Proofs.Try.prog 8).drop 11) (mkTm 100 (rmT opens n i)) (mkS (rmH1 n n0 c0)) (vK rmL K)) = (
  bif okC c0 n0 then
  bif xcm .geq (fndW c0 (xar .add .i64 (↑n) 1)) 0 then (
   bif xnn (fndW c0 (xar .add .i64 (↑n) 1)) then
   bif xle (xadd (xnat (fndW c0 (xar .add .i64 (↑n) 1))) 1) n0 then
   bif xle (xadd (xadd (xix 0 (xnat (fndW c0 (xar .add .i64 (↑n) 1))) 2) 1) 1) (xln c0) then
   bif isI .u64 (nthD c0 (xadd (xix 0 (xnat (fndW c0 (xar .add .i64 (↑n) 1))) 2) 1)) then
   K .ret [.int .u16 opens, .bool false, .int .i64 ↑n, .ptr 0 0, .int .i64 ↑i] [some (.cells [.int .i64 ↑n, .slo 1 0 1 0] none), some (.cells [.ptr 2 0] (some 1)), some (.cells [.ptr 3 0, .nils] none), some (.cells [.int .i64 96, .slo 4 0 n0 0] none), some (.cells c0 (some 2))] []
   else False
   else False
   else False
   else False)
  else (
   bif xle n0 1000000 then
   bif xeq (xln c0) (xmul n0 2) then
   bif xnoid c0 then
   bif okC c0 n0 then
   bif xle (takeN 96 0 [] n0 c0) 1000000 then
   bif xeq (xln (takeC 96 0 [] n0 c0)) (xmul (takeN 96 0 [] n0 c0) 2) then
   bif xnoid (takeC 96 0 [] n0 c0) then
   K .ret [.int .u16 opens, .bool (xcm .eql ↑(takeN 96 0 [] n0 c0) ↑n), .int .i64 ↑n, .ptr 0 0, .int .i64 ↑i] [some (.cells [.int .i64 ↑n, .slo 1 0 1 0] none), some (.cells [.ptr 2 0] (some 1)), some (.cells [.ptr 3 0, .nils] none), some (.cells [.int .i64 96, .slo 4 0 n0 0] none), some (.cells c0 (some 2)), some (.cells [.int .i64 96, .slo 7 0 (takeN 96 0 [] n0 c0) 0] none), some (.cells c0 (some 2)), some (.cells (takeC 96 0 [] n0 c0) (some 2)), some (.cells (takeC 96 0 [] n0 c0) (some 2))] []
   else False
   else False
   else False
   else False
   else False
   else False
   else False)
  else False) := by kernel_rfl
theorem re2_p (opens : Int) (n i : Nat) (n0 : Nat) (c0 : List LV) (n1 : Nat) (c1 : List LV) (K : Pk) : (xsp Go.Proofs.Try.prog cxr9 100 100 (seg (sp Go.Proofs.Try.prog 8) 9 2) (mkTm 100 (rmT opens n i)) (mkS (rmH2 n n0 c0 n1 c1)) (vK rmL K)) = (
  bif xcm .gtr (↑n) 6 then (
   bif okC c1 n1 then
   bif xcm .geq (fndW c1 ↑n) 0 then (
    bif xnn (fndW c1 ↑n) then
    bif xle (xadd (xnat (fndW c1 ↑n)) 1) n1 then
    bif xle (xadd (xadd (xix 0 (xnat (fndW c1 ↑n)) 2) 1) 1) (xln c1) then
    bif isI .u64 (nthD c1 (xadd (xix 0 (xnat (fndW c1 ↑n)) 2) 1)) then
    bif okC c1 n1 then
    bif xle (xadd n1 1) 1000000 then
    bif xcm .neq (putE 96 n1 c1 (↑n) 8) 0 then (
     K .ret [.int .u16 opens, .bool false, .int .i64 ↑n, .ptr 0 0, .int .i64 ↑i] [some (.cells [.int .i64 ↑n, .slo 1 0 2 0] none), some (.cells [.ptr 2 0, .ptr 5 0] (some 1)), some (.cells [.ptr 3 0, .nils] none), some (.cells [.int .i64 96, .slo 4 0 n0 0] none), some (.cells c0 (some 2)), some (.cells [.ptr 6 0, .nils] none), some (.cells [.int .i64 96, .slo 11 0 (tk1N 96 n1 c1 (↑n) 8) 0] none), some .dead, some (.cells [.int .i64 ↑n, .int .u64 8] none), some (.cells [.int .i64 (xmn (xmx (xar .sub .i64 (xar .sub .i64 ↑n ↑n0) ↑n1) 0) 96), .nils] none), some (.cells [.int .i64 ↑n, .int .u64 8] none), some (.cells (tk1C 96 n1 c1 (↑n) 8) (some 2))] [])
    else (
     bif xcm .neq (xar .sub .i64 (xar .sub .i64 ↑n ↑n0) ↑(tk1N 96 n1 c1 (↑n) 8)) 0 then (
      K .ret [.int .u16 opens, .bool false, .int .i64 ↑n, .ptr 0 0, .int .i64 ↑i] [some (.cells [.int .i64 ↑n, .slo 1 0 2 0] none), some (.cells [.ptr 2 0, .ptr 5 0] (some 1)), some (.cells [.ptr 3 0, .nils] none), some (.cells [.int .i64 96, .slo 4 0 n0 0] none), some (.cells c0 (some 2)), some (.cells [.ptr 6 0, .nils] none), some (.cells [.int .i64 96, .slo 11 0 (tk1N 96 n1 c1 (↑n) 8) 0] none), some .dead, some (.cells [.int .i64 ↑n, .int .u64 8] none), some (.cells [.int .i64 (xmn (xmx (xar .sub .i64 (xar .sub .i64 ↑n ↑n0) ↑n1) 0) 96), .nils] none), some (.cells [.int .i64 ↑n, .int .u64 8] none), some (.cells (tk1C 96 n1 c1 (↑n) 8) (some 2))] [])
     else (
      K .normal [.int .u16 opens, .any, .int .i64 ↑n, .ptr 0 0, .int .i64 ↑i] [some (.cells [.int .i64 ↑n, .slo 1 0 2 0] none), some (.cells [.ptr 2 0, .ptr 5 0] (some 1)), some (.cells [.ptr 3 0, .nils] none), some (.cells [.int .i64 96, .slo 4 0 n0 0] none), some (.cells c0 (some 2)), some (.cells [.ptr 6 0, .nils] none), some (.cells [.int .i64 96, .slo 11 0 (tk1N 96 n1 c1 (↑n) 8) 0] none), some .dead, some (.cells [.int .i64 ↑n, .int .u64 8] none), some (.cells [.int .i64 (xmn (xmx (xar .sub .i64 (xar .sub .i64 ↑n ↑n0) ↑n1) 0) 96), .nils] none), some (.cells [.int .i64 ↑n, .int .u64 8] none), some (.cells (tk1C 96 n1 c1 (↑n) 8) (some 2))] []))
    else False
    else False
    else False
    else False
    else False
    else False)
   else (
    bif xcm .lss (↑n) 1 then (
     K .ret [.int .u16 opens, .bool false, .int .i64 ↑n, .ptr 0 0, .int .i64 ↑i] [some (.cells [.int .i64 ↑n, .slo 1 0 2 0] none), some (.cells [.ptr 2 0, .ptr 5 0] (some 1)), some (.cells [.ptr 3 0, .nils] none), some (.cells [.int .i64 96, .slo 4 0 n0 0] none), some (.cells c0 (some 2)), some (.cells [.ptr 6 0, .nils] none), some (.cells [.int .i64 96, .slo 7 0 n1 0] none), some (.cells c1 (some 2)), some (.cells [.int .i64 ↑n, .int .u64 8] none), some (.cells [.int .i64 (xmn (xmx (xar .sub .i64 (xar .sub .i64 ↑n ↑n0) ↑n1) 0) 96), .nils] none), some (.cells [.int .i64 ↑n, .int .u64 8] none)] [])
    else (
     bif xcm .geq (↑n) 256 then (
      K .ret [.int .u16 opens, .bool false, .int .i64 ↑n, .ptr 0 0, .int .i64 ↑i] [some (.cells [.int .i64 ↑n, .slo 1 0 2 0] none), some (.cells [.ptr 2 0, .ptr 5 0] (some 1)), some (.cells [.ptr 3 0, .nils] none), some (.cells [.int .i64 96, .slo 4 0 n0 0] none), some (.cells c0 (some 2)), some (.cells [.ptr 6 0, .nils] none), some (.cells [.int .i64 96, .slo 7 0 n1 0] none), some (.cells c1 (some 2)), some (.cells [.int .i64 ↑n, .int .u64 8] none), some (.cells [.int .i64 (xmn (xmx (xar .sub .i64 (xar .sub .i64 ↑n ↑n0) ↑n1) 0) 96), .nils] none), some (.cells [.int .i64 ↑n, .int .u64 8] none)] [])
     else (
      bif xcm .geq 0 (xmn (xmx (xar .sub .i64 (xar .sub .i64 ↑n ↑n0) ↑n1) 0) 96) then (
       K .ret [.int .u16 opens, .bool false, .int .i64 ↑n, .ptr 0 0, .int .i64 ↑i] [some (.cells [.int .i64 ↑n, .slo 1 0 2 0] none), some (.cells [.ptr 2 0, .ptr 5 0] (some 1)), some (.cells [.ptr 3 0, .nils] none), some (.cells [.int .i64 96, .slo 4 0 n0 0] none), some (.cells c0 (some 2)), some (.cells [.ptr 6 0, .nils] none), some (.cells [.int .i64 96, .slo 7 0 n1 0] none), some (.cells c1 (some 2)), some (.cells [.int .i64 ↑n, .int .u64 8] none), some (.cells [.int .i64 (xmn (xmx (xar .sub .i64 (xar .sub .i64 ↑n ↑n0) ↑n1) 0) 96), .nils] none), some (.cells [.int .i64 ↑n, .int .u64 8] none)] [])
      else (
       bif okC c1 n1 then
       bif xle (xadd n1 1) 1000000 then
       bif xcm .neq (putE 96 n1 c1 (↑n) 8) 0 then (
        K .ret [.int .u16 opens, .bool false, .int .i64 ↑n, .ptr 0 0, .int .i64 ↑i] [some (.cells [.int .i64 ↑n, .slo 1 0 2 0] none), some (.cells [.ptr 2 0, .ptr 5 0] (some 1)), some (.cells [.ptr 3 0, .nils] none), some (.cells [.int .i64 96, .slo 4 0 n0 0] none), some (.cells c0 (some 2)), some (.cells [.ptr 6 0, .nils] none), some (.cells [.int .i64 96, .slo 13 0 (tk1N 96 n1 c1 (↑n) 8) 0] none), some .dead, some (.cells [.int .i64 ↑n, .int .u64 8] none), some (.cells [.int .i64 (xmn (xmx (xar .sub .i64 (xar .sub .i64 ↑n ↑n0) ↑n1) 0) 96), .slo 12 0 1 0] none), some (.cells [.int .i64 ↑n, .int .u64 8] none), some (.cells [.int .i64 ↑n, .int .u64 8] none), some (.cells [.int .i64 ↑n, .int .u64 8] (some 2)), some (.cells (tk1C 96 n1 c1 (↑n) 8) (some 2))] [])
       else (
        bif xcm .neq (xar .sub .i64 (xar .sub .i64 ↑n ↑n0) ↑(tk1N 96 n1 c1 (↑n) 8)) 0 then (
         K .ret [.int .u16 opens, .bool false, .int .i64 ↑n, .ptr 0 0, .int .i64 ↑i] [some (.cells [.int .i64 ↑n, .slo 1 0 2 0] none), some (.cells [.ptr 2 0, .ptr 5 0] (some 1)), some (.cells [.ptr 3 0, .nils] none), some (.cells [.int .i64 96, .slo 4 0 n0 0] none), some (.cells c0 (some 2)), some (.cells [.ptr 6 0, .nils] none), some (.cells [.int .i64 96, .slo 13 0 (tk1N 96 n1 c1 (↑n) 8) 0] none), some .dead, some (.cells [.int .i64 ↑n, .int .u64 8] none), some (.cells [.int .i64 (xmn (xmx (xar .sub .i64 (xar .sub .i64 ↑n ↑n0) ↑n1) 0) 96), .slo 12 0 1 0] none), some (.cells [.int .i64 ↑n, .int .u64 8] none), some (.cells [.int .i64 ↑n, .int .u64 8] none), some (.cells [.int .i64 ↑n, .int .u64 8] (some 2)), some (.cells (tk1C 96 n1 c1 (↑n) 8) (some 2))] [])
        else (
         K .normal [.int .u16 opens, .any, .int .i64 ↑n, .ptr 0 0, .int .i64 ↑i] [some (.cells [.int .i64 ↑n, .slo 1 0 2 0] none), some (.cells [.ptr 2 0, .ptr 5 0] (some 1)), some (.cells [.ptr 3 0, .nils] none), some (.cells [.int .i64 96, .slo 4 0 n0 0] none), some (.cells c0 (some 2)), some (.cells [.ptr 6 0, .nils] none), some (.cells [.int .i64 96, .slo 13 0 (tk1N 96 n1 c1 (↑n) 8) 0] none), some .dead, some (.cells [.int .i64 ↑n, .int .u64 8] none), some (.cells [.int .i64 (xmn (xmx (xar .sub .i64 (xar .sub .i64 ↑n ↑n0) ↑n1) 0) 96), .slo 12 0 1 0] none), some (.cells [.int .i64 ↑n, .int .u64 8] none), some (.cells [.int .i64 ↑n, .int .u64 8] none), some (.cells [.int .i64 ↑n, .int .u64 8] (some 2)), some (.cells (tk1C 96 n1 c1 (↑n) 8) (some 2))] []))
       else False
       else False))))
   else False)
  else (
   K .normal [.int .u16 opens, .any, .int .i64 ↑n, .ptr 0 0, .int .i64 ↑i] [some (.cells [.int .i64 ↑n, .slo 1 0 2 0] none), some (.cells [.ptr 2 0, .ptr 5 0] (some 1)), some (.cells [.ptr 3 0, .nils] none), some (.cells [.int .i64 96, .slo 4 0 n0 0] none), some (.cells c0 (some 2)), some (.cells [.ptr 6 0, .nils] none), some (.cells [.int .i64 96, .slo 7 0 n1 0] none), some (.cells c1 (some 2))] [])) := by kernel_rfl
theorem re2_z (opens : Int) (n i : Nat) (n0 : Nat) (c0 : List LV) (n1 : Nat) (c1 : List LV) (K : Pk) : (xsp Go.Proofs.Try.prog cxr9 100 100 ((sp Go.Proofs.Try.prog 8).drop 11) (mkTm 100 (rmT opens n i)) (mkS (rmH2 n n0 c0 n1 c1)) (vK rmL K)) = (
  bif okC c1 n1 then
  bif xcm .geq (fndW c1 (xar .add .i64 (↑n) 1)) 0 then (
   bif xnn (fndW c1 (xar .add .i64 (↑n) 1)) then
   bif xle (xadd (xnat (fndW c1 (xar .add .i64 (↑n) 1))) 1) n1 then
   bif xle (xadd (xadd (xix 0 (xnat (fndW c1 (xar .add .i64 (↑n) 1))) 2) 1) 1) (xln c1) then
   bif isI .u64 (nthD c1 (xadd (xix 0 (xnat (fndW c1 (xar .add .i64 (↑n) 1))) 2) 1)) then
   K .ret [.int .u16 opens, .bool false, .int .i64 ↑n, .ptr 0 0, .int .i64 ↑i] [some (.cells [.int .i64 ↑n, .slo 1 0 2 0] none), some (.cells [.ptr 2 0, .ptr 5 0] (some 1)), some (.cells [.ptr 3 0, .nils] none), some (.cells [.int .i64 96, .slo 4 0 n0 0] none), some (.cells c0 (some 2)), some (.cells [.ptr 6 0, .nils] none), some (.cells [.int .i64 96, .slo 7 0 n1 0] none), some (.cells c1 (some 2))] []
   else False
   else False
   else False
   else False)
  else (
   bif okC c0 n0 then
   bif xcm .geq (fndW c0 (xar .add .i64 (↑n) 1)) 0 then (
    bif xnn (fndW c0 (xar .add .i64 (↑n) 1)) then
    bif xle (xadd (xnat (fndW c0 (xar .add .i64 (↑n) 1))) 1) n0 then
    bif xle (xadd (xadd (xix 0 (xnat (fndW c0 (xar .add .i64 (↑n) 1))) 2) 1) 1) (xln c0) then
    bif isI .u64 (nthD c0 (xadd (xix 0 (xnat (fndW c0 (xar .add .i64 (↑n) 1))) 2) 1)) then
    K .ret [.int .u16 opens, .bool false, .int .i64 ↑n, .ptr 0 0, .int .i64 ↑i] [some (.cells [.int .i64 ↑n, .slo 1 0 2 0] none), some (.cells [.ptr 2 0, .ptr 5 0] (some 1)), some (.cells [.ptr 3 0, .nils] none), some (.cells [.int .i64 96, .slo 4 0 n0 0] none), some (.cells c0 (some 2)), some (.cells [.ptr 6 0, .nils] none), some (.cells [.int .i64 96, .slo 7 0 n1 0] none), some (.cells c1 (some 2))] []
    else False
    else False
    else False
    else False)
   else (
    bif xle n0 1000000 then
    bif xeq (xln c0) (xmul n0 2) then
    bif xnoid c0 then
    bif okC c0 n0 then
    bif xle n1 1000000 then
    bif xeq (xln c1) (xmul n1 2) then
    bif xnoid c1 then
    bif okC (takeC 96 0 [] n0 c0) (takeN 96 0 [] n0 c0) then
    bif okC c1 n1 then
    bif xle (xadd (takeN 96 0 [] n0 c0) 1) 1000000 then
    bif xle (takeN 96 (takeN 96 0 [] n0 c0) (takeC 96 0 [] n0 c0) n1 c1) 1000000 then
    bif xeq (xln (takeC 96 (takeN 96 0 [] n0 c0) (takeC 96 0 [] n0 c0) n1 c1)) (xmul (takeN 96 (takeN 96 0 [] n0 c0) (takeC 96 0 [] n0 c0) n1 c1) 2) then
    bif xnoid (takeC 96 (takeN 96 0 [] n0 c0) (takeC 96 0 [] n0 c0) n1 c1) then
    K .ret [.int .u16 opens, .bool (xcm .eql ↑(takeN 96 (takeN 96 0 [] n0 c0) (takeC 96 0 [] n0 c0) n1 c1) ↑n), .int .i64 ↑n, .ptr 0 0, .int .i64 ↑i] [some (.cells [.int .i64 ↑n, .slo 1 0 2 0] none), some (.cells [.ptr 2 0, .ptr 5 0] (some 1)), some (.cells [.ptr 3 0, .nils] none), some (.cells [.int .i64 96, .slo 4 0 n0 0] none), some (.cells c0 (some 2)), some (.cells [.ptr 6 0, .nils] none), some (.cells [.int .i64 96, .slo 7 0 n1 0] none), some (.cells c1 (some 2)), some (.cells [.int .i64 96, .slo 12 0 (takeN 96 (takeN 96 0 [] n0 c0) (takeC 96 0 [] n0 c0) n1 c1) 0] none), some (.cells c0 (some 2)), some .dead, some (.cells c1 (some 2)), some (.cells (takeC 96 (takeN 96 0 [] n0 c0) (takeC 96 0 [] n0 c0) n1 c1) (some 2)), some (.cells (takeC 96 (takeN 96 0 [] n0 c0) (takeC 96 0 [] n0 c0) n1 c1) (some 2))] []
    else False
    else False
    else False
    else False
    else False
    else False
    else False
    else False
    else False
    else False
    else False
    else False
    else False)
   else False)
  else False) := by kernel_rfl
theorem re3_p (opens : Int) (n i : Nat) (n0 : Nat) (c0 : List LV) (n1 : Nat) (c1 : List LV) (n2 : Nat) (c2 : List LV) (K : Pk) : (xsp Go.Proofs.Try.prog cxr9 100 100 (seg (sp Go.Proofs.Try.prog 8) 9 2) (mkTm 100 (rmT opens n i)) (mkS (rmH3 n n0 c0 n1 c1 n2 c2)) (vK rmL K)) = (
  bif xcm .gtr (↑n) 6 then (
   bif okC c2 n2 then
   bif xcm .geq (fndW c2 ↑n) 0 then (
    bif xnn (fndW c2 ↑n) then
    bif xle (xadd (xnat (fndW c2 ↑n)) 1) n2 then
    bif xle (xadd (xadd (xix 0 (xnat (fndW c2 ↑n)) 2) 1) 1) (xln c2) then
    bif isI .u64 (nthD c2 (xadd (xix 0 (xnat (fndW c2 ↑n)) 2) 1)) then
    bif okC c2 n2 then
    bif xle (xadd n2 1) 1000000 then
    bif xcm .neq (putE 96 n2 c2 (↑n) 8) 0 then (
     K .ret [.int .u16 opens, .bool false, .int .i64 ↑n, .ptr 0 0, .int .i64 ↑i] [some (.cells [.int .i64 ↑n, .slo 1 0 3 0] none), some (.cells [.ptr 2 0, .ptr 5 0, .ptr 8 0] (some 1)), some (.cells [.ptr 3 0, .nils] none), some (.cells [.int .i64 96, .slo 4 0 n0 0] none), some (.cells c0 (some 2)), some (.cells [.ptr 6 0, .nils] none), some (.cells [.int .i64 96, .slo 7 0 n1 0] none), some (.cells c1 (some 2)), some (.cells [.ptr 9 0, .nils] none), some (.cells [.int .i64 96, .slo 14 0 (tk1N 96 n2 c2 (↑n) 8) 0] none), some .dead, some (.cells [.int .i64 ↑n, .int .u64 8] none), some (.cells [.int .i64 (xmn (xmx (xar .sub .i64 (xar .sub .i64 (xar .sub .i64 ↑n ↑n0) ↑n1) ↑n2) 0) 96), .nils] none), some (.cells [.int .i64 ↑n, .int .u64 8] none), some (.cells (tk1C 96 n2 c2 (↑n) 8) (some 2))] [])
    else (
     bif xcm .neq (xar .sub .i64 (xar .sub .i64 (xar .sub .i64 ↑n ↑n0) ↑n1) ↑(tk1N 96 n2 c2 (↑n) 8)) 0 then (
      K .ret [.int .u16 opens, .bool false, .int .i64 ↑n, .ptr 0 0, .int .i64 ↑i] [some (.cells [.int .i64 ↑n, .slo 1 0 3 0] none), some (.cells [.ptr 2 0, .ptr 5 0, .ptr 8 0] (some 1)), some (.cells [.ptr 3 0, .nils] none), some (.cells [.int .i64 96, .slo 4 0 n0 0] none), some (.cells c0 (some 2)), some (.cells [.ptr 6 0, .nils] none), some (.cells [.int .i64 96, .slo 7 0 n1 0] none), some (.cells c1 (some 2)), some (.cells [.ptr 9 0, .nils] none), some (.cells [.int .i64 96, .slo 14 0 (tk1N 96 n2 c2 (↑n) 8) 0] none), some .dead, some (.cells [.int .i64 ↑n, .int .u64 8] none), some (.cells [.int .i64 (xmn (xmx (xar .sub .i64 (xar .sub .i64 (xar .sub .i64 ↑n ↑n0) ↑n1) ↑n2) 0) 96), .nils] none), some (.cells [.int .i64 ↑n, .int .u64 8] none), some (.cells (tk1C 96 n2 c2 (↑n) 8) (some 2))] [])
     else (
      K .normal [.int .u16 opens, .any, .int .i64 ↑n, .ptr 0 0, .int .i64 ↑i] [some (.cells [.int .i64 ↑n, .slo 1 0 3 0] none), some (.cells [.ptr 2 0, .ptr 5 0, .ptr 8 0] (some 1)), some (.cells [.ptr 3 0, .nils] none), some (.cells [.int .i64 96, .slo 4 0 n0 0] none), some (.cells c0 (some 2)), some (.cells [.ptr 6 0, .nils] none), some (.cells [.int .i64 96, .slo 7 0 n1 0] none), some (.cells c1 (some 2)), some (.cells [.ptr 9 0, .nils] none), some (.cells [.int .i64 96, .slo 14 0 (tk1N 96 n2 c2 (↑n) 8) 0] none), some .dead, some (.cells [.int .i64 ↑n, .int .u64 8] none), some (.cells [.int .i64 (xmn (xmx (xar .sub .i64 (xar .sub .i64 (xar .sub .i64 ↑n ↑n0) ↑n1) ↑n2) 0) 96), .nils] none), some (.cells [.int .i64 ↑n, .int .u64 8] none), some (.cells (tk1C 96 n2 c2 (↑n) 8) (some 2))] []))
    else False
    else False
    else False
    else False
    else False
    else False)
   else (
    bif xcm .lss (↑n) 1 then (
     K .ret [.int .u16 opens, .bool false, .int .i64 ↑n, .ptr 0 0, .int .i64 ↑i] [some (.cells [.int .i64 ↑n, .slo 1 0 3 0] none), some (.cells [.ptr 2 0, .ptr 5 0, .ptr 8 0] (some 1)), some (.cells [.ptr 3 0, .nils] none), some (.cells [.int .i64 96, .slo 4 0 n0 0] none), some (.cells c0 (some 2)), some (.cells [.ptr 6 0, .nils] none), some (.cells [.int .i64 96, .slo 7 0 n1 0] none), some (.cells c1 (some 2)), some (.cells [.ptr 9 0, .nils] none), some (.cells [.int .i64 96, .slo 10 0 n2 0] none), some (.cells c2 (some 2)), some (.cells [.int .i64 ↑n, .int .u64 8] none), some (.cells [.int .i64 (xmn (xmx (xar .sub .i64 (xar .sub .i64 (xar .sub .i64 ↑n ↑n0) ↑n1) ↑n2) 0) 96), .nils] none), some (.cells [.int .i64 ↑n, .int .u64 8] none)] [])
    else (
     bif xcm .geq (↑n) 256 then (
      K .ret [.int .u16 opens, .bool false, .int .i64 ↑n, .ptr 0 0, .int .i64 ↑i] [some (.cells [.int .i64 ↑n, .slo 1 0 3 0] none), some (.cells [.ptr 2 0, .ptr 5 0, .ptr 8 0] (some 1)), some (.cells [.ptr 3 0, .nils] none), some (.cells [.int .i64 96, .slo 4 0 n0 0] none), some (.cells c0 (some 2)), some (.cells [.ptr 6 0, .nils] none), some (.cells [.int .i64 96, .slo 7 0 n1 0] none), some (.cells c1 (some 2)), some (.cells [.ptr 9 0, .nils] none), some (.cells [.int .i64 96, .slo 10 0 n2 0] none), some (.cells c2 (some 2)), some (.cells [.int .i64 ↑n, .int .u64 8] none), some (.cells [.int .i64 (xmn (xmx (xar .sub .i64 (xar .sub .i64 (xar .sub .i64 ↑n ↑n0) ↑n1) ↑n2) 0) 96), .nils] none), some (.cells [.int .i64 ↑n, .int .u64 8] none)] [])
     else (
      bif xcm .geq 0 (xmn (xmx (xar .sub .i64 (xar .sub .i64 (xar .sub .i64 ↑n ↑n0) ↑n1) ↑n2) 0) 96) then (
       K .ret [.int .u16 opens, .bool false, .int .i64 ↑n, .ptr 0 0, .int .i64 ↑i] [some (.cells [.int .i64 ↑n, .slo 1 0 3 0] none), some (.cells [.ptr 2 0, .ptr 5 0, .ptr 8 0] (some 1)), some (.cells [.ptr 3 0, .nils] none), some (.cells [.int .i64 96, .slo 4 0 n0 0] none), some (.cells c0 (some 2)), some (.cells [.ptr 6 0, .nils] none), some (.cells [.int .i64 96, .slo 7 0 n1 0] none), some (.cells c1 (some 2)), some (.cells [.ptr 9 0, .nils] none), some (.cells [.int .i64 96, .slo 10 0 n2 0] none), some (.cells c2 (some 2)), some (.cells [.int .i64 ↑n, .int .u64 8] none), some (.cells [.int .i64 (xmn (xmx (xar .sub .i64 (xar .sub .i64 (xar .sub .i64 ↑n ↑n0) ↑n1) ↑n2) 0) 96), .nils] none), some (.cells [.int .i64 ↑n, .int .u64 8] none)] [])
      else (
       bif okC c2 n2 then
       bif xle (xadd n2 1) 1000000 then
       bif xcm .neq (putE 96 n2 c2 (↑n) 8) 0 then (
        K .ret [.int .u16 opens, .bool false, .int .i64 ↑n, .ptr 0 0, .int .i64 ↑i] [some (.cells [.int .i64 ↑n, .slo 1 0 3 0] none), some (.cells [.ptr 2 0, .ptr 5 0, .ptr 8 0] (some 1)), some (.cells [.ptr 3 0, .nils] none), some (.cells [.int .i64 96, .slo 4 0 n0 0] none), some (.cells c0 (some 2)), some (.cells [.ptr 6 0, .nils] none), some (.cells [.int .i64 96, .slo 7 0 n1 0] none), some (.cells c1 (some 2)), some (.cells [.ptr 9 0, .nils] none), some (.cells [.int .i64 96, .slo 16 0 (tk1N 96 n2 c2 (↑n) 8) 0] none), some .dead, some (.cells [.int .i64 ↑n, .int .u64 8] none), some (.cells [.int .i64 (xmn (xmx (xar .sub .i64 (xar .sub .i64 (xar .sub .i64 ↑n ↑n0) ↑n1) ↑n2) 0) 96), .slo 15 0 1 0] none), some (.cells [.int .i64 ↑n, .int .u64 8] none), some (.cells [.int .i64 ↑n, .int .u64 8] none), some (.cells [.int .i64 ↑n, .int .u64 8] (some 2)), some (.cells (tk1C 96 n2 c2 (↑n) 8) (some 2))] [])
       else (
        bif xcm .neq (xar .sub .i64 (xar .sub .i64 (xar .sub .i64 ↑n ↑n0) ↑n1) ↑(tk1N 96 n2 c2 (↑n) 8)) 0 then (
         K .ret [.int .u16 opens, .bool false, .int .i64 ↑n, .ptr 0 0, .int .i64 ↑i] [some (.cells [.int .i64 ↑n, .slo 1 0 3 0] none), some (.cells [.ptr 2 0, .ptr 5 0, .ptr 8 0] (some 1)), some (.cells [.ptr 3 0, .nils] none), some (.cells [.int .i64 96, .slo 4 0 n0 0] none), some (.cells c0 (some 2)), some (.cells [.ptr 6 0, .nils] none), some (.cells [.int .i64 96, .slo 7 0 n1 0] none), some (.cells c1 (some 2)), some (.cells [.ptr 9 0, .nils] none), some (.cells [.int .i64 96, .slo 16 0 (tk1N 96 n2 c2 (↑n) 8) 0] none), some .dead, some (.cells [.int .i64 ↑n, .int .u64 8] none), some (.cells [.int .i64 (xmn (xmx (xar .sub .i64 (xar .sub .i64 (xar .sub .i64 ↑n ↑n0) ↑n1) ↑n2) 0) 96), .slo 15 0 1 0] none), some (.cells [.int .i64 ↑n, .int .u64 8] none), some (.cells [.int .i64 ↑n, .int .u64 8] none), some (.cells [.int .i64 ↑n, .int .u64 8] (some 2)), some (.cells (tk1C 96 n2 c2 (↑n) 8) (some 2))] [])
        else (
         K .normal [.int .u16 opens, .any, .int .i64 ↑n, .ptr 0 0, .int .i64 ↑i] [some (.cells [.int .i64 ↑n, .slo 1 0 3 0] none), some (.cells [.ptr 2 0, .ptr 5 0, .ptr 8 0] (some 1)), some (.cells [.ptr 3 0, .nils] none), some (.cells [.int .i64 96, .slo 4 0 n0 0] none), some (.cells c0 (some 2)), some (.cells [.ptr 6 0, .nils] none), some (.cells [.int .i64 96, .slo 7 0 n1 0] none), some (.cells c1 (some 2)), some (.cells [.ptr 9 0, .nils] none), some (.cells [.int .i64 96, .slo 16 0 (tk1N 96 n2 c2 (↑n) 8) 0] none), some .dead, some (.cells [.int .i64 ↑n, .int .u64 8] none), some (.cells [.int .i64 (xmn (xmx (xar .sub .i64 (xar .sub .i64 (xar .sub .i64 ↑n ↑n0) ↑n1) ↑n2) 0) 96), .slo 15 0 1 0] none), some (.cells [.int .i64 ↑n, .int .u64 8] none), some (.cells [.int .i64 ↑n, .int .u64 8] none), some (.cells [.int .i64 ↑n, .int .u64 8] (some 2)), some (.cells (tk1C 96 n2 c2 (↑n) 8) (some 2))] []))
       else False
       else False))))
   else False)
  else (
   K .normal [.int .u16 opens, .any, .int .i64 ↑n, .ptr 0 0, .int .i64 ↑i] [some (.cells [.int .i64 ↑n, .slo 1 0 3 0] none), some (.cells [.ptr 2 0, .ptr 5 0, .ptr 8 0] (some 1)), some (.cells [.ptr 3 0, .nils] none), some (.cells [.int .i64 96, .slo 4 0 n0 0] none), some (.cells c0 (some 2)), some (.cells [.ptr 6 0, .nils] none), some (.cells [.int .i64 96, .slo 7 0 n1 0] none), some (.cells c1 (some 2)), some (.cells [.ptr 9 0, .nils] none), some (.cells [.int .i64 96, .slo 10 0 n2 0] none), some (.cells c2 (some 2))] [])) := by kernel_rfl
theorem re3_z (opens : Int) (n i : Nat) (n0 : Nat) (c0 : List LV) (n1 : Nat) (c1 : List LV) (n2 : Nat) (c2 : List LV) (K : Pk) : (xsp Go.Proofs.Try.prog cxr9 100 100 ((sp Go.Proofs.Try.prog 8).drop 11) (mkTm 100 (rmT opens n i)) (mkS (rmH3 n n0 c0 n1 c1 n2 c2)) (vK rmL K)) = (
  bif okC c2 n2 then
  bif xcm .geq (fndW c2 (xar .add .i64 (↑n) 1)) 0 then (
   bif xnn (fndW c2 (xar .add .i64 (↑n) 1)) then
   bif xle (xadd (xnat (fndW c2 (xar .add .i64 (↑n) 1))) 1) n2 then
   bif xle (xadd (xadd (xix 0 (xnat (fndW c2 (xar .add .i64 (↑n) 1))) 2) 1) 1) (xln c2) then
   bif isI .u64 (nthD c2 (xadd (xix 0 (xnat (fndW c2 (xar .add .i64 (↑n) 1))) 2) 1)) then
   K .ret [.int .u16 opens, .bool false, .int .i64 ↑n, .ptr 0 0, .int .i64 ↑i] [some (.cells [.int .i64 ↑n, .slo 1 0 3 0] none), some (.cells [.ptr 2 0, .ptr 5 0, .ptr 8 0] (some 1)), some (.cells [.ptr 3 0, .nils] none), some (.cells [.int .i64 96, .slo 4 0 n0 0] none), some (.cells c0 (some 2)), some (.cells [.ptr 6 0, .nils] none), some (.cells [.int .i64 96, .slo 7 0 n1 0] none), some (.cells c1 (some 2)), some (.cells [.ptr 9 0, .nils] none), some (.cells [.int .i64 96, .slo 10 0 n2 0] none), some (.cells c2 (some 2))] []
   else False
   else False
   else False
   else False)
  else (
   bif okC c1 n1 then
   bif xcm .geq (fndW c1 (xar .add .i64 (↑n) 1)) 0 then (
    bif xnn (fndW c1 (xar .add .i64 (↑n) 1)) then
    bif xle (xadd (xnat (fndW c1 (xar .add .i64 (↑n) 1))) 1) n1 then
    bif xle (xadd (xadd (xix 0 (xnat (fndW c1 (xar .add .i64 (↑n) 1))) 2) 1) 1) (xln c1) then
    bif isI .u64 (nthD c1 (xadd (xix 0 (xnat (fndW c1 (xar .add .i64 (↑n) 1))) 2) 1)) then
    K .ret [.int .u16 opens, .bool false, .int .i64 ↑n, .ptr 0 0, .int .i64 ↑i] [some (.cells [.int .i64 ↑n, .slo 1 0 3 0] none), some (.cells [.ptr 2 0, .ptr 5 0, .ptr 8 0] (some 1)), some (.cells [.ptr 3 0, .nils] none), some (.cells [.int .i64 96, .slo 4 0 n0 0] none), some (.cells c0 (some 2)), some (.cells [.ptr 6 0, .nils] none), some (.cells [.int .i64 96, .slo 7 0 n1 0] none), some (.cells c1 (some 2)), some (.cells [.ptr 9 0, .nils] none), some (.cells [.int .i64 96, .slo 10 0 n2 0] none), some (.cells c2 (some 2))] []
    else False
    else False
    else False
    else False)
   else (
    bif okC c0 n0 then
    bif xcm .geq (fndW c0 (xar .add .i64 (↑n) 1)) 0 then (
     bif xnn (fndW c0 (xar .add .i64 (↑n) 1)) then
     bif xle (xadd (xnat (fndW c0 (xar .add .i64 (↑n) 1))) 1) n0 then
     bif xle (xadd (xadd (xix 0 (xnat (fndW c0 (xar .add .i64 (↑n) 1))) 2) 1) 1) (xln c0) then
     bif isI .u64 (nthD c0 (xadd (xix 0 (xnat (fndW c0 (xar .add .i64 (↑n) 1))) 2) 1)) then
     K .ret [.int .u16 opens, .bool false, .int .i64 ↑n, .ptr 0 0, .int .i64 ↑i] [some (.cells [.int .i64 ↑n, .slo 1 0 3 0] none), some (.cells [.ptr 2 0, .ptr 5 0, .ptr 8 0] (some 1)), some (.cells [.ptr 3 0, .nils] none), some (.cells [.int .i64 96, .slo 4 0 n0 0] none), some (.cells c0 (some 2)), some (.cells [.ptr 6 0, .nils] none), some (.cells [.int .i64 96, .slo 7 0 n1 0] none), some (.cells c1 (some 2)), some (.cells [.ptr 9 0, .nils] none), some (.cells [.int .i64 96, .slo 10 0 n2 0] none), some (.cells c2 (some 2))] []
     else False
     else False
     else False
     else False)
    else (
     bif xle n0 1000000 then
     bif xeq (xln c0) (xmul n0 2) then
     bif xnoid c0 then
     bif okC c0 n0 then
     bif xle n1 1000000 then
     bif xeq (xln c1) (xmul n1 2) then
     bif xnoid c1 then
     bif okC (takeC 96 0 [] n0 c0) (takeN 96 0 [] n0 c0) then
     bif okC c1 n1 then
     bif xle (xadd (takeN 96 0 [] n0 c0) 1) 1000000 then
     bif xle n2 1000000 then
     bif xeq (xln c2) (xmul n2 2) then
     bif xnoid c2 then
     bif okC (takeC 96 (takeN 96 0 [] n0 c0) (takeC 96 0 [] n0 c0) n1 c1) (takeN 96 (takeN 96 0 [] n0 c0) (takeC 96 0 [] n0 c0) n1 c1) then
     bif okC c2 n2 then
     bif xle (xadd (takeN 96 (takeN 96 0 [] n0 c0) (takeC 96 0 [] n0 c0) n1 c1) 1) 1000000 then
     bif xle (takeN 96 (takeN 96 (takeN 96 0 [] n0 c0) (takeC 96 0 [] n0 c0) n1 c1) (takeC 96 (takeN 96 0 [] n0 c0) (takeC 96 0 [] n0 c0) n1 c1) n2 c2) 1000000 then
     bif xeq (xln (takeC 96 (takeN 96 (takeN 96 0 [] n0 c0) (takeC 96 0 [] n0 c0) n1 c1) (takeC 96 (takeN 96 0 [] n0 c0) (takeC 96 0 [] n0 c0) n1 c1) n2 c2)) (xmul (takeN 96 (takeN 96 (takeN 96 0 [] n0 c0) (takeC 96 0 [] n0 c0) n1 c1) (takeC 96 (takeN 96 0 [] n0 c0) (takeC 96 0 [] n0 c0) n1 c1) n2 c2) 2) then
     bif xnoid (takeC 96 (takeN 96 (takeN 96 0 [] n0 c0) (takeC 96 0 [] n0 c0) n1 c1) (takeC 96 (takeN 96 0 [] n0 c0) (takeC 96 0 [] n0 c0) n1 c1) n2 c2) then
     K .ret [.int .u16 opens, .bool (xcm .eql ↑(takeN 96 (takeN 96 (takeN 96 0 [] n0 c0) (takeC 96 0 [] n0 c0) n1 c1) (takeC 96 (takeN 96 0 [] n0 c0) (takeC 96 0 [] n0 c0) n1 c1) n2 c2) ↑n), .int .i64 ↑n, .ptr 0 0, .int .i64 ↑i] [some (.cells [.int .i64 ↑n, .slo 1 0 3 0] none), some (.cells [.ptr 2 0, .ptr 5 0, .ptr 8 0] (some 1)), some (.cells [.ptr 3 0, .nils] none), some (.cells [.int .i64 96, .slo 4 0 n0 0] none), some (.cells c0 (some 2)), some (.cells [.ptr 6 0, .nils] none), some (.cells [.int .i64 96, .slo 7 0 n1 0] none), some (.cells c1 (some 2)), some (.cells [.ptr 9 0, .nils] none), some (.cells [.int .i64 96, .slo 10 0 n2 0] none), some (.cells c2 (some 2)), some (.cells [.int .i64 96, .slo 17 0 (takeN 96 (takeN 96 (takeN 96 0 [] n0 c0) (takeC 96 0 [] n0 c0) n1 c1) (takeC 96 (takeN 96 0 [] n0 c0) (takeC 96 0 [] n0 c0) n1 c1) n2 c2) 0] none), some (.cells c0 (some 2)), some .dead, some (.cells c1 (some 2)), some .dead, some (.cells c2 (some 2)), some (.cells (takeC 96 (takeN 96 (takeN 96 0 [] n0 c0) (takeC 96 0 [] n0 c0) n1 c1) (takeC 96 (takeN 96 0 [] n0 c0) (takeC 96 0 [] n0 c0) n1 c1) n2 c2) (some 2)), some (.cells (takeC 96 (takeN 96 (takeN 96 0 [] n0 c0) (takeC 96 0 [] n0 c0) n1 c1) (takeC 96 (takeN 96 0 [] n0 c0) (takeC 96 0 [] n0 c0) n1 c1) n2 c2) (some 2))] []
     else False
     else False
     else False
     else False
     else False
     else False
     else False
     else False
     else False
     else False
     else False
     else False
     else False
     else False
     else False
     else False
     else False
     else False
     else False)
    else False)
   else False)
  else False) := by kernel_rfl
theorem re4_p (opens : Int) (n i : Nat) (n0 : Nat) (c0 : List LV) (n1 : Nat) (c1 : List LV) (n2 : Nat) (c2 : List LV) (n3 : Nat) (c3 : List LV) (K : Pk) : (xsp Go.Proofs.Try.prog cxr9 100 100 (seg (sp Go.Proofs.Try.prog 8) 9 2) (mkTm 100 (rmT opens n i)) (mkS (rmH4 n n0 c0 n1 c1 n2 c2 n3 c3)) (vK rmL K)) = (
  bif xcm .gtr (↑n) 6 then (
   bif okC c3 n3 then
   bif xcm .geq (fndW c3 ↑n) 0 then (
    bif xnn (fndW c3 ↑n) then
    bif xle (xadd (xnat (fndW c3 ↑n)) 1) n3 then
    bif xle (xadd (xadd (xix 0 (xnat (fndW c3 ↑n)) 2) 1) 1) (xln c3) then
    bif isI .u64 (nthD c3 (xadd (xix 0 (xnat (fndW c3 ↑n)) 2) 1)) then
    bif okC c3 n3 then
    bif xle (xadd n3 1) 1000000 then
    bif xcm .neq (putE 96 n3 c3 (↑n) 8) 0 then (
     K .ret [.int .u16 opens, .bool false, .int .i64 ↑n, .ptr 0 0, .int .i64 ↑i] [some (.cells [.int .i64 ↑n, .slo 1 0 4 0] none), some (.cells [.ptr 2 0, .ptr 5 0, .ptr 8 0, .ptr 11 0] (some 1)), some (.cells [.ptr 3 0, .nils] none), some (.cells [.int .i64 96, .slo 4 0 n0 0] none), some (.cells c0 (some 2)), some (.cells [.ptr 6 0, .nils] none), some (.cells [.int .i64 96, .slo 7 0 n1 0] none), some (.cells c1 (some 2)), some (.cells [.ptr 9 0, .nils] none), some (.cells [.int .i64 96, .slo 10 0 n2 0] none), some (.cells c2 (some 2)), some (.cells [.ptr 12 0, .nils] none), some (.cells [.int .i64 96, .slo 17 0 (tk1N 96 n3 c3 (↑n) 8) 0] none), some .dead, some (.cells [.int .i64 ↑n, .int .u64 8] none), some (.cells [.int .i64 (xmn (xmx (xar .sub .i64 (xar .sub .i64 (xar .sub .i64 (xar .sub .i64 ↑n ↑n0) ↑n1) ↑n2) ↑n3) 0) 96), .nils] none), some (.cells [.int .i64 ↑n, .int .u64 8] none), some (.cells (tk1C 96 n3 c3 (↑n) 8) (some 2))] [])
    else (
     bif xcm .neq (xar .sub .i64 (xar .sub .i64 (xar .sub .i64 (xar .sub .i64 ↑n ↑n0) ↑n1) ↑n2) ↑(tk1N 96 n3 c3 (↑n) 8)) 0 then (
      K .ret [.int .u16 opens, .bool false, .int .i64 ↑n, .ptr 0 0, .int .i64 ↑i] [some (.cells [.int .i64 ↑n, .slo 1 0 4 0] none), some (.cells [.ptr 2 0, .ptr 5 0, .ptr 8 0, .ptr 11 0] (some 1)), some (.cells [.ptr 3 0, .nils] none), some (.cells [.int .i64 96, .slo 4 0 n0 0] none), some (.cells c0 (some 2)), some (.cells [.ptr 6 0, .nils] none), some (.cells [.int .i64 96, .slo 7 0 n1 0] none), some (.cells c1 (some 2)), some (.cells [.ptr 9 0, .nils] none), some (.cells [.int .i64 96, .slo 10 0 n2 0] none), some (.cells c2 (some 2)), some (.cells [.ptr 12 0, .nils] none), some (.cells [.int .i64 96, .slo 17 0 (tk1N 96 n3 c3 (↑n) 8) 0] none), some .dead, some (.cells [.int .i64 ↑n, .int .u64 8] none), some (.cells [.int .i64 (xmn (xmx (xar .sub .i64 (xar .sub .i64 (xar .sub .i64 (xar .sub .i64 ↑n ↑n0) ↑n1) ↑n2) ↑n3) 0) 96), .nils] none), some (.cells [.int .i64 ↑n, .int .u64 8] none), some (.cells (tk1C 96 n3 c3 (↑n) 8) (some 2))] [])
     else (
      K .normal [.int .u16 opens, .any, .int .i64 ↑n, .ptr 0 0, .int .i64 ↑i] [some (.cells [.int .i64 ↑n, .slo 1 0 4 0] none), some (.cells [.ptr 2 0, .ptr 5 0, .ptr 8 0, .ptr 11 0] (some 1)), some (.cells [.ptr 3 0, .nils] none), some (.cells [.int .i64 96, .slo 4 0 n0 0] none), some (.cells c0 (some 2)), some (.cells [.ptr 6 0, .nils] none), some (.cells [.int .i64 96, .slo 7 0 n1 0] none), some (.cells c1 (some 2)), some (.cells [.ptr 9 0, .nils] none), some (.cells [.int .i64 96, .slo 10 0 n2 0] none), some (.cells c2 (some 2)), some (.cells [.ptr 12 0, .nils] none), some (.cells [.int .i64 96, .slo 17 0 (tk1N 96 n3 c3 (↑n) 8) 0] none), some .dead, some (.cells [.int .i64 ↑n, .int .u64 8] none), some (.cells [.int .i64 (xmn (xmx (xar .sub .i64 (xar .sub .i64 (xar .sub .i64 (xar .sub .i64 ↑n ↑n0) ↑n1) ↑n2) ↑n3) 0) 96), .nils] none), some (.cells [.int .i64 ↑n, .int .u64 8] none), some (.cells (tk1C 96 n3 c3 (↑n) 8) (some 2))] []))
    else False
    else False
    else False
    else False
    else False
    else False)
   else (
    bif xcm .lss (↑n) 1 then (
     K .ret [.int .u16 opens, .bool false, .int .i64 ↑n, .ptr 0 0, .int .i64 ↑i] [some (.cells [.int .i64 ↑n, .slo 1 0 4 0] none), some (.cells [.ptr 2 0, .ptr 5 0, .ptr 8 0, .ptr 11 0] (some 1)), some (.cells [.ptr 3 0, .nils] none), some (.cells [.int .i64 96, .slo 4 0 n0 0] none), some (.cells c0 (some 2)), some (.cells [.ptr 6 0, .nils] none), some (.cells [.int .i64 96, .slo 7 0 n1 0] none), some (.cells c1 (some 2)), some (.cells [.ptr 9 0, .nils] none), some (.cells [.int .i64 96, .slo 10 0 n2 0] none), some (.cells c2 (some 2)), some (.cells [.ptr 12 0, .nils] none), some (.cells [.int .i64 96, .slo 13 0 n3 0] none), some (.cells c3 (some 2)), some (.cells [.int .i64 ↑n, .int .u64 8] none), some (.cells [.int .i64 (xmn (xmx (xar .sub .i64 (xar .sub .i64 (xar .sub .i64 (xar .sub .i64 ↑n ↑n0) ↑n1) ↑n2) ↑n3) 0) 96), .nils] none), some (.cells [.int .i64 ↑n, .int .u64 8] none)] [])
    else (
     bif xcm .geq (↑n) 256 then (
      K .ret [.int .u16 opens, .bool false, .int .i64 ↑n, .ptr 0 0, .int .i64 ↑i] [some (.cells [.int .i64 ↑n, .slo 1 0 4 0] none), some (.cells [.ptr 2 0, .ptr 5 0, .ptr 8 0, .ptr 11 0] (some 1)), some (.cells [.ptr 3 0, .nils] none), some (.cells [.int .i64 96, .slo 4 0 n0 0] none), some (.cells c0 (some 2)), some (.cells [.ptr 6 0, .nils] none), some (.cells [.int .i64 96, .slo 7 0 n1 0] none), some (.cells c1 (some 2)), some (.cells [.ptr 9 0, .nils] none), some (.cells [.int .i64 96, .slo 10 0 n2 0] none), some (.cells c2 (some 2)), some (.cells [.ptr 12 0, .nils] none), some (.cells [.int .i64 96, .slo 13 0 n3 0] none), some (.cells c3 (some 2)), some (.cells [.int .i64 ↑n, .int .u64 8] none), some (.cells [.int .i64 (xmn (xmx (xar .sub .i64 (xar .sub .i64 (xar .sub .i64 (xar .sub .i64 ↑n ↑n0) ↑n1) ↑n2) ↑n3) 0) 96), .nils] none), some (.cells [.int .i64 ↑n, .int .u64 8] none)] [])
     else (
      bif xcm .geq 0 (xmn (xmx (xar .sub .i64 (xar .sub .i64 (xar .sub .i64 (xar .sub .i64 ↑n ↑n0) ↑n1) ↑n2) ↑n3) 0) 96) then (
       K .ret [.int .u16 opens, .bool false, .int .i64 ↑n, .ptr 0 0, .int .i64 ↑i] [some (.cells [.int .i64 ↑n, .slo 1 0 4 0] none), some (.cells [.ptr 2 0, .ptr 5 0, .ptr 8 0, .ptr 11 0] (some 1)), some (.cells [.ptr 3 0, .nils] none), some (.cells [.int .i64 96, .slo 4 0 n0 0] none), some (.cells c0 (some 2)), some (.cells [.ptr 6 0, .nils] none), some (.cells [.int .i64 96, .slo 7 0 n1 0] none), some (.cells c1 (some 2)), some (.cells [.ptr 9 0, .nils] none), some (.cells [.int .i64 96, .slo 10 0 n2 0] none), some (.cells c2 (some 2)), some (.cells [.ptr 12 0, .nils] none), some (.cells [.int .i64 96, .slo 13 0 n3 0] none), some (.cells c3 (some 2)), some (.cells [.int .i64 ↑n, .int .u64 8] none), some (.cells [.int .i64 (xmn (xmx (xar .sub .i64 (xar .sub .i64 (xar .sub .i64 (xar .sub .i64 ↑n ↑n0) ↑n1) ↑n2) ↑n3) 0) 96), .nils] none), some (.cells [.int .i64 ↑n, .int .u64 8] none)] [])
      else (
       bif okC c3 n3 then
       bif xle (xadd n3 1) 1000000 then
       bif xcm .neq (putE 96 n3 c3 (↑n) 8) 0 then (
        K .ret [.int .u16 opens, .bool false, .int .i64 ↑n, .ptr 0 0, .int .i64 ↑i] [some (.cells [.int .i64 ↑n, .slo 1 0 4 0] none), some (.cells [.ptr 2 0, .ptr 5 0, .ptr 8 0, .ptr 11 0] (some 1)), some (.cells [.ptr 3 0, .nils] none), some (.cells [.int .i64 96, .slo 4 0 n0 0] none), some (.cells c0 (some 2)), some (.cells [.ptr 6 0, .nils] none), some (.cells [.int .i64 96, .slo 7 0 n1 0] none), some (.cells c1 (some 2)), some (.cells [.ptr 9 0, .nils] none), some (.cells [.int .i64 96, .slo 10 0 n2 0] none), some (.cells c2 (some 2)), some (.cells [.ptr 12 0, .nils] none), some (.cells [.int .i64 96, .slo 19 0 (tk1N 96 n3 c3 (↑n) 8) 0] none), some .dead, some (.cells [.int .i64 ↑n, .int .u64 8] none), some (.cells [.int .i64 (xmn (xmx (xar .sub .i64 (xar .sub .i64 (xar .sub .i64 (xar .sub .i64 ↑n ↑n0) ↑n1) ↑n2) ↑n3) 0) 96), .slo 18 0 1 0] none), some (.cells [.int .i64 ↑n, .int .u64 8] none), some (.cells [.int .i64 ↑n, .int .u64 8] none), some (.cells [.int .i64 ↑n, .int .u64 8] (some 2)), some (.cells (tk1C 96 n3 c3 (↑n) 8) (some 2))] [])
       else (
        bif xcm .neq (xar .sub .i64 (xar .sub .i64 (xar .sub .i64 (xar .sub .i64 ↑n ↑n0) ↑n1) ↑n2) ↑(tk1N 96 n3 c3 (↑n) 8)) 0 then (
         K .ret [.int .u16 opens, .bool false, .int .i64 ↑n, .ptr 0 0, .int .i64 ↑i] [some (.cells [.int .i64 ↑n, .slo 1 0 4 0] none), some (.cells [.ptr 2 0, .ptr 5 0, .ptr 8 0, .ptr 11 0] (some 1)), some (.cells [.ptr 3 0, .nils] none), some (.cells [.int .i64 96, .slo 4 0 n0 0] none), some (.cells c0 (some 2)), some (.cells [.ptr 6 0, .nils] none), some (.cells [.int .i64 96, .slo 7 0 n1 0] none), some (.cells c1 (some 2)), some (.cells [.ptr 9 0, .nils] none), some (.cells [.int .i64 96, .slo 10 0 n2 0] none), some (.cells c2 (some 2)), some (.cells [.ptr 12 0, .nils] none), some (.cells [.int .i64 96, .slo 19 0 (tk1N 96 n3 c3 (↑n) 8) 0] none), some .dead, some (.cells [.int .i64 ↑n, .int .u64 8] none), some (.cells [.int .i64 (xmn (xmx (xar .sub .i64 (xar .sub .i64 (xar .sub .i64 (xar .sub .i64 ↑n ↑n0) ↑n1) ↑n2) ↑n3) 0) 96), .slo 18 0 1 0] none), some (.cells [.int .i64 ↑n, .int .u64 8] none), some (.cells [.int .i64 ↑n, .int .u64 8] none), some (.cells [.int .i64 ↑n, .int .u64 8] (some 2)), some (.cells (tk1C 96 n3 c3 (↑n) 8) (some 2))] [])
        else (
         K .normal [.int .u16 opens, .any, .int .i64 ↑n, .ptr 0 0, .int .i64 ↑i] [some (.cells [.int .i64 ↑n, .slo 1 0 4 0] none), some (.cells [.ptr 2 0, .ptr 5 0, .ptr 8 0, .ptr 11 0] (some 1)), some (.cells [.ptr 3 0, .nils] none), some (.cells [.int .i64 96, .slo 4 0 n0 0] none), some (.cells c0 (some 2)), some (.cells [.ptr 6 0, .nils] none), some (.cells [.int .i64 96, .slo 7 0 n1 0] none), some (.cells c1 (some 2)), some (.cells [.ptr 9 0, .nils] none), some (.cells [.int .i64 96, .slo 10 0 n2 0] none), some (.cells c2 (some 2)), some (.cells [.ptr 12 0, .nils] none), some (.cells [.int .i64 96, .slo 19 0 (tk1N 96 n3 c3 (↑n) 8) 0] none), some .dead, some (.cells [.int .i64 ↑n, .int .u64 8] none), some (.cells [.int .i64 (xmn (xmx (xar .sub .i64 (xar .sub .i64 (xar .sub .i64 (xar .sub .i64 ↑n ↑n0) ↑n1) ↑n2) ↑n3) 0) 96), .slo 18 0 1 0] none), some (.cells [.int .i64 ↑n, .int .u64 8] none), some (.cells [.int .i64 ↑n, .int .u64 8] none), some (.cells [.int .i64 ↑n, .int .u64 8] (some 2)), some (.cells (tk1C 96 n3 c3 (↑n) 8) (some 2))] []))
       else False
       else False))))
   else False)
  else (
   K .normal [.int .u16 opens, .any, .int .i64 ↑n, .ptr 0 0, .int .i64 ↑i] [some (.cells [.int .i64 ↑n, .slo 1 0 4 0] none), some (.cells [.ptr 2 0, .ptr 5 0, .ptr 8 0, .ptr 11 0] (some 1)), some (.cells [.ptr 3 0, .nils] none), some (.cells [.int .i64 96, .slo 4 0 n0 0] none), some (.cells c0 (some 2)), some (.cells [.ptr 6 0, .nils] none), some (.cells [.int .i64 96, .slo 7 0 n1 0] none), some (.cells c1 (some 2)), some (.cells [.ptr 9 0, .nils] none), some (.cells [.int .i64 96, .slo 10 0 n2 0] none), some (.cells c2 (some 2)), some (.cells [.ptr 12 0, .nils] none), some (.cells [.int .i64 96, .slo 13 0 n3 0] none), some (.cells c3 (some 2))] [])) := by kernel_rfl
theorem re4_z (opens : Int) (n i : Nat) (n0 : Nat) (c0 : List LV) (n1 : Nat) (c1 : List LV) (n2 : Nat) (c2 : List LV) (n3 : Nat) (c3 : List LV) (K : Pk) : (xsp Go.Proofs.Try.prog cxr9 100 100 ((sp Go.Proofs.Try.prog 8).drop 11) (mkTm 100 (rmT opens n i)) (mkS (rmH4 n n0 c0 n1 c1 n2 c2 n3 c3)) (vK rmL K)) = (
  bif okC c3 n3 then
  bif xcm .geq (fndW c3 (xar .add .i64 (↑n) 1)) 0 then (
   bif xnn (fndW c3 (xar .add .i64 (↑n) 1)) then
   bif xle (xadd (xnat (fndW c3 (xar .add .i64 (↑n) 1))) 1) n3 then
   bif xle (xadd (xadd (xix 0 (xnat (fndW c3 (xar .add .i64 (↑n) 1))) 2) 1) 1) (xln c3) then
   bif isI .u64 (nthD c3 (xadd (xix 0 (xnat (fndW c3 (xar .add .i64 (↑n) 1))) 2) 1)) then
   K .ret [.int .u16 opens, .bool false, .int .i64 ↑n, .ptr 0 0, .int .i64 ↑i] [some (.cells [.int .i64 ↑n, .slo 1 0 4 0] none), some (.cells [.ptr 2 0, .ptr 5 0, .ptr 8 0, .ptr 11 0] (some 1)), some (.cells [.ptr 3 0, .nils] none), some (.cells [.int .i64 96, .slo 4 0 n0 0] none), some (.cells c0 (some 2)), some (.cells [.ptr 6 0, .nils] none), some (.cells [.int .i64 96, .slo 7 0 n1 0] none), some (.cells c1 (some 2)), some (.cells [.ptr 9 0, .nils] none), some (.cells [.int .i64 96, .slo 10 0 n2 0] none), some (.cells c2 (some 2)), some (.cells [.ptr 12 0, .nils] none), some (.cells [.int .i64 96, .slo 13 0 n3 0] none), some (.cells c3 (some 2))] []
   else False
   else False
   else False
   else False)
  else (
   bif okC c2 n2 then
   bif xcm .geq (fndW c2 (xar .add .i64 (↑n) 1)) 0 then (
    bif xnn (fndW c2 (xar .add .i64 (↑n) 1)) then
    bif xle (xadd (xnat (fndW c2 (xar .add .i64 (↑n) 1))) 1) n2 then
    bif xle (xadd (xadd (xix 0 (xnat (fndW c2 (xar .add .i64 (↑n) 1))) 2) 1) 1) (xln c2) then
    bif isI .u64 (nthD c2 (xadd (xix 0 (xnat (fndW c2 (xar .add .i64 (↑n) 1))) 2) 1)) then
    K .ret [.int .u16 opens, .bool false, .int .i64 ↑n, .ptr 0 0, .int .i64 ↑i] [some (.cells [.int .i64 ↑n, .slo 1 0 4 0] none), some (.cells [.ptr 2 0, .ptr 5 0, .ptr 8 0, .ptr 11 0] (some 1)), some (.cells [.ptr 3 0, .nils] none), some (.cells [.int .i64 96, .slo 4 0 n0 0] none), some (.cells c0 (some 2)), some (.cells [.ptr 6 0, .nils] none), some (.cells [.int .i64 96, .slo 7 0 n1 0] none), some (.cells c1 (some 2)), some (.cells [.ptr 9 0, .nils] none), some (.cells [.int .i64 96, .slo 10 0 n2 0] none), some (.cells c2 (some 2)), some (.cells [.ptr 12 0, .nils] none), some (.cells [.int .i64 96, .slo 13 0 n3 0] none), some (.cells c3 (some 2))] []
    else False
    else False
    else False
    else False)
   else (
    bif okC c1 n1 then
    bif xcm .geq (fndW c1 (xar .add .i64 (↑n) 1)) 0 then (
     bif xnn (fndW c1 (xar .add .i64 (↑n) 1)) then
     bif xle (xadd (xnat (fndW c1 (xar .add .i64 (↑n) 1))) 1) n1 then
     bif xle (xadd (xadd (xix 0 (xnat (fndW c1 (xar .add .i64 (↑n) 1))) 2) 1) 1) (xln c1) then
     bif isI .u64 (nthD c1 (xadd (xix 0 (xnat (fndW c1 (xar .add .i64 (↑n) 1))) 2) 1)) then
     K .ret [.int .u16 opens, .bool false, .int .i64 ↑n, .ptr 0 0, .int .i64 ↑i] [some (.cells [.int .i64 ↑n, .slo 1 0 4 0] none), some (.cells [.ptr 2 0, .ptr 5 0, .ptr 8 0, .ptr 11 0] (some 1)), some (.cells [.ptr 3 0, .nils] none), some (.cells [.int .i64 96, .slo 4 0 n0 0] none), some (.cells c0 (some 2)), some (.cells [.ptr 6 0, .nils] none), some (.cells [.int .i64 96, .slo 7 0 n1 0] none), some (.cells c1 (some 2)), some (.cells [.ptr 9 0, .nils] none), some (.cells [.int .i64 96, .slo 10 0 n2 0] none), some (.cells c2 (some 2)), some (.cells [.ptr 12 0, .nils] none), some (.cells [.int .i64 96, .slo 13 0 n3 0] none), some (.cells c3 (some 2))] []
     else False
     else False
     else False
     else False)
    else (
     bif okC c0 n0 then
     bif xcm .geq (fndW c0 (xar .add .i64 (↑n) 1)) 0 then (
      bif xnn (fndW c0 (xar .add .i64 (↑n) 1)) then
      bif xle (xadd (xnat (fndW c0 (xar .add .i64 (↑n) 1))) 1) n0 then
      bif xle (xadd (xadd (xix 0 (xnat (fndW c0 (xar .add .i64 (↑n) 1))) 2) 1) 1) (xln c0) then
      bif isI .u64 (nthD c0 (xadd (xix 0 (xnat (fndW c0 (xar .add .i64 (↑n) 1))) 2) 1)) then
      K .ret [.int .u16 opens, .bool false, .int .i64 ↑n, .ptr 0 0, .int .i64 ↑i] [some (.cells [.int .i64 ↑n, .slo 1 0 4 0] none), some (.cells [.ptr 2 0, .ptr 5 0, .ptr 8 0, .ptr 11 0] (some 1)), some (.cells [.ptr 3 0, .nils] none), some (.cells [.int .i64 96, .slo 4 0 n0 0] none), some (.cells c0 (some 2)), some (.cells [.ptr 6 0, .nils] none), some (.cells [.int .i64 96, .slo 7 0 n1 0] none), some (.cells c1 (some 2)), some (.cells [.ptr 9 0, .nils] none), some (.cells [.int .i64 96, .slo 10 0 n2 0] none), some (.cells c2 (some 2)), some (.cells [.ptr 12 0, .nils] none), some (.cells [.int .i64 96, .slo 13 0 n3 0] none), some (.cells c3 (some 2))] []
      else False
      else False
      else False
      else False)
     else (
      bif xle n0 1000000 then
      bif xeq (xln c0) (xmul n0 2) then
      bif xnoid c0 then
      bif okC c0 n0 then
      bif xle n1 1000000 then
      bif xeq (xln c1) (xmul n1 2) then
      bif xnoid c1 then
      bif okC (takeC 96 0 [] n0 c0) (takeN 96 0 [] n0 c0) then
      bif okC c1 n1 then
      bif xle (xadd (takeN 96 0 [] n0 c0) 1) 1000000 then
      bif xle n2 1000000 then
      bif xeq (xln c2) (xmul n2 2) then
      bif xnoid c2 then
      bif okC (takeC 96 (takeN 96 0 [] n0 c0) (takeC 96 0 [] n0 c0) n1 c1) (takeN 96 (takeN 96 0 [] n0 c0) (takeC 96 0 [] n0 c0) n1 c1) then
      bif okC c2 n2 then
      bif xle (xadd (takeN 96 (takeN 96 0 [] n0 c0) (takeC 96 0 [] n0 c0) n1 c1) 1) 1000000 then
      bif xle n3 1000000 then
      bif xeq (xln c3) (xmul n3 2) then
      bif xnoid c3 then
      bif okC (takeC 96 (takeN 96 (takeN 96 0 [] n0 c0) (takeC 96 0 [] n0 c0) n1 c1) (takeC 96 (takeN 96 0 [] n0 c0) (takeC 96 0 [] n0 c0) n1 c1) n2 c2) (takeN 96 (takeN 96 (takeN 96 0 [] n0 c0) (takeC 96 0 [] n0 c0) n1 c1) (takeC 96 (takeN 96 0 [] n0 c0) (takeC 96 0 [] n0 c0) n1 c1) n2 c2) then
      bif okC c3 n3 then
      bif xle (xadd (takeN 96 (takeN 96 (takeN 96 0 [] n0 c0) (takeC 96 0 [] n0 c0) n1 c1) (takeC 96 (takeN 96 0 [] n0 c0) (takeC 96 0 [] n0 c0) n1 c1) n2 c2) 1) 1000000 then
      bif xle (takeN 96 (takeN 96 (takeN 96 (takeN 96 0 [] n0 c0) (takeC 96 0 [] n0 c0) n1 c1) (takeC 96 (takeN 96 0 [] n0 c0) (takeC 96 0 [] n0 c0) n1 c1) n2 c2) (takeC 96 (takeN 96 (takeN 96 0 [] n0 c0) (takeC 96 0 [] n0 c0) n1 c1) (takeC 96 (takeN 96 0 [] n0 c0) (takeC 96 0 [] n0 c0) n1 c1) n2 c2) n3 c3) 1000000 then
      bif xeq (xln (takeC 96 (takeN 96 (takeN 96 (takeN 96 0 [] n0 c0) (takeC 96 0 [] n0 c0) n1 c1) (takeC 96 (takeN 96 0 [] n0 c0) (takeC 96 0 [] n0 c0) n1 c1) n2 c2) (takeC 96 (takeN 96 (takeN 96 0 [] n0 c0) (takeC 96 0 [] n0 c0) n1 c1) (takeC 96 (takeN 96 0 [] n0 c0) (takeC 96 0 [] n0 c0) n1 c1) n2 c2) n3 c3)) (xmul (takeN 96 (takeN 96 (takeN 96 (takeN 96 0 [] n0 c0) (takeC 96 0 [] n0 c0) n1 c1) (takeC 96 (takeN 96 0 [] n0 c0) (takeC 96 0 [] n0 c0) n1 c1) n2 c2) (takeC 96 (takeN 96 (takeN 96 0 [] n0 c0) (takeC 96 0 [] n0 c0) n1 c1) (takeC 96 (takeN 96 0 [] n0 c0) (takeC 96 0 [] n0 c0) n1 c1) n2 c2) n3 c3) 2) then
      bif xnoid (takeC 96 (takeN 96 (takeN 96 (takeN 96 0 [] n0 c0) (takeC 96 0 [] n0 c0) n1 c1) (takeC 96 (takeN 96 0 [] n0 c0) (takeC 96 0 [] n0 c0) n1 c1) n2 c2) (takeC 96 (takeN 96 (takeN 96 0 [] n0 c0) (takeC 96 0 [] n0 c0) n1 c1) (takeC 96 (takeN 96 0 [] n0 c0) (takeC 96 0 [] n0 c0) n1 c1) n2 c2) n3 c3) then
      K .ret [.int .u16 opens, .bool (xcm .eql ↑(takeN 96 (takeN 96 (takeN 96 (takeN 96 0 [] n0 c0) (takeC 96 0 [] n0 c0) n1 c1) (takeC 96 (takeN 96 0 [] n0 c0) (takeC 96 0 [] n0 c0) n1 c1) n2 c2) (takeC 96 (takeN 96 (takeN 96 0 [] n0 c0) (takeC 96 0 [] n0 c0) n1 c1) (takeC 96 (takeN 96 0 [] n0 c0) (takeC 96 0 [] n0 c0) n1 c1) n2 c2) n3 c3) ↑n), .int .i64 ↑n, .ptr 0 0, .int .i64 ↑i] [some (.cells [.int .i64 ↑n, .slo 1 0 4 0] none), some (.cells [.ptr 2 0, .ptr 5 0, .ptr 8 0, .ptr 11 0] (some 1)), some (.cells [.ptr 3 0, .nils] none), some (.cells [.int .i64 96, .slo 4 0 n0 0] none), some (.cells c0 (some 2)), some (.cells [.ptr 6 0, .nils] none), some (.cells [.int .i64 96, .slo 7 0 n1 0] none), some (.cells c1 (some 2)), some (.cells [.ptr 9 0, .nils] none), some (.cells [.int .i64 96, .slo 10 0 n2 0] none), some (.cells c2 (some 2)), some (.cells [.ptr 12 0, .nils] none), some (.cells [.int .i64 96, .slo 13 0 n3 0] none), some (.cells c3 (some 2)), some (.cells [.int .i64 96, .slo 22 0 (takeN 96 (takeN 96 (takeN 96 (takeN 96 0 [] n0 c0) (takeC 96 0 [] n0 c0) n1 c1) (takeC 96 (takeN 96 0 [] n0 c0) (takeC 96 0 [] n0 c0) n1 c1) n2 c2) (takeC 96 (takeN 96 (takeN 96 0 [] n0 c0) (takeC 96 0 [] n0 c0) n1 c1) (takeC 96 (takeN 96 0 [] n0 c0) (takeC 96 0 [] n0 c0) n1 c1) n2 c2) n3 c3) 0] none), some (.cells c0 (some 2)), some .dead, some (.cells c1 (some 2)), some .dead, some (.cells c2 (some 2)), some .dead, some (.cells c3 (some 2)), some (.cells (takeC 96 (takeN 96 (takeN 96 (takeN 96 0 [] n0 c0) (takeC 96 0 [] n0 c0) n1 c1) (takeC 96 (takeN 96 0 [] n0 c0) (takeC 96 0 [] n0 c0) n1 c1) n2 c2) (takeC 96 (takeN 96 (takeN 96 0 [] n0 c0) (takeC 96 0 [] n0 c0) n1 c1) (takeC 96 (takeN 96 0 [] n0 c0) (takeC 96 0 [] n0 c0) n1 c1) n2 c2) n3 c3) (some 2)), some (.cells (takeC 96 (takeN 96 (takeN 96 (takeN 96 0 [] n0 c0) (takeC 96 0 [] n0 c0) n1 c1) (takeC 96 (takeN 96 0 [] n0 c0) (takeC 96 0 [] n0 c0) n1 c1) n2 c2) (takeC 96 (takeN 96 (takeN 96 0 [] n0 c0) (takeC 96 0 [] n0 c0) n1 c1) (takeC 96 (takeN 96 0 [] n0 c0) (takeC 96 0 [] n0 c0) n1 c1) n2 c2) n3 c3) (some 2))] []
      else False
      else False
      else False
      else False
      else False
      else False
      else False
      else False
      else False
      else False
      else False
      else False
      else False
      else False
      else False
      else False
      else False
      else False
      else False
      else False
      else False
      else False
      else False
      else False
      else False)
     else False)
    else False)
   else False)
  else False) := by kernel_rfl
end
end Go.Lev
