/- ExtendPlays: the comparing piece -/
import Derived.Test.YtaojclcadmjiaaaCW3
import Derived.Test.YtaojclcadmjiaaaLc
import Derived.Test.YtaojclcadmjiaaaChecked
import Derived.KernelRfl

namespace Go.Lev
open Go.RowKit
set_option linter.unusedVariables false
set_option linter.unusedSimpArgs false
set_option maxRecDepth 100000
noncomputable section
theorem ep_e (n1 m i : Nat) (raw : Bool) (qx ax cs : List LV) (me : Int) (off len k : Nat) (at' : Int) (dt : Bool) (sm su en bu er : Int) (K : Pk) : (xsp Go.Proofs.Try.prog cxp 40 210 (seg (spineL (blockIn (nthC (spineL (loopOf (nthC (sp Go.Proofs.Try.prog 4) 14))) 2))) 0 9) (mkTm 210 (epU n1 raw m i)) (mkS (epI qx ax cs me off len k m at' dt sm su en bu er)) (vK epL K)) = (
  bif xnot (xcm .eql en 0) then (
   bif xcm .eql en 0 then (
    bif xcm .lss at' 0 then (
     bif xcm .eql en 2 then (
      bif xnot (xbq false (xcm .eql en 0)) then (
       K .ret [.any, .any, .any, .slo 1 0 n1 0, .bool raw, .bool false, .slo 2 0 m 0, .any, .ptr 3 0, .ptr 6 0, .int .i64 ↑i] [some (.ro qx), some (.ro ax), some (.cells cs (some 2)), some (.cells [.ptr 4 0, .slo 5 off len k, .bool dt, .int .u64 sm] none), some (.cells [.int .i64 me, .int .i64 su, .int .i64 en, .int .i64 bu, .int .i64 er] none), some (.cells cs (some 2)), some (.cells [.int .i64 me, .int .i64 su, .int .i64 en, .int .i64 er, .int .i64 bu, .slo 7 0 m 0, .int .i64 at', .int .u64 sm] none), some (.cells cs (some 2)), some (.cells [.int .i64 0, .int .i64 0, .int .u64 0, .int .u64 0, .int .u64 0, .bool false, .int .i64 0, .int .u64 0, .bool false, .int .i64 0] none), some (.cells [.int .i64 0, .int .i64 0, .int .u64 0, .int .u64 0, .int .u64 0, .bool false, .int .i64 0, .int .u64 0, .bool false, .int .i64 0] none), some (.cells [.int .i64 6, .int .i64 0, .int .u64 0, .int .u64 0, .int .u64 0, .bool false, .int .i64 0, .int .u64 0, .bool false, .int .i64 0] none), some (.cells [.int .i64 6, .int .i64 0, .int .u64 0, .int .u64 0, .int .u64 0, .bool false, .int .i64 0, .int .u64 0, .bool false, .int .i64 0] none)] [])
      else (
       K .ret [.any, .any, .any, .slo 1 0 n1 0, .bool raw, .bool false, .slo 2 0 m 0, .any, .ptr 3 0, .ptr 6 0, .int .i64 ↑i] [some (.ro qx), some (.ro ax), some (.cells cs (some 2)), some (.cells [.ptr 4 0, .slo 5 off len k, .bool dt, .int .u64 sm] none), some (.cells [.int .i64 me, .int .i64 su, .int .i64 en, .int .i64 bu, .int .i64 er] none), some (.cells cs (some 2)), some (.cells [.int .i64 me, .int .i64 su, .int .i64 en, .int .i64 er, .int .i64 bu, .slo 7 0 m 0, .int .i64 at', .int .u64 sm] none), some (.cells cs (some 2)), some (.cells [.int .i64 0, .int .i64 0, .int .u64 0, .int .u64 0, .int .u64 0, .bool false, .int .i64 0, .int .u64 0, .bool false, .int .i64 0] none), some (.cells [.int .i64 0, .int .i64 0, .int .u64 0, .int .u64 0, .int .u64 0, .bool false, .int .i64 0, .int .u64 0, .bool false, .int .i64 0] none), some (.cells [.int .i64 6, .int .i64 0, .int .u64 0, .int .u64 0, .int .u64 0, .bool false, .int .i64 0, .int .u64 0, .bool false, .int .i64 0] none), some (.cells [.int .i64 6, .int .i64 0, .int .u64 0, .int .u64 0, .int .u64 0, .bool false, .int .i64 0, .int .u64 0, .bool false, .int .i64 0] none)] []))
     else (
      bif xnot (xbq false (xcm .eql en 0)) then (
       K .ret [.any, .any, .any, .slo 1 0 n1 0, .bool raw, .bool false, .slo 2 0 m 0, .any, .ptr 3 0, .ptr 6 0, .int .i64 ↑i] [some (.ro qx), some (.ro ax), some (.cells cs (some 2)), some (.cells [.ptr 4 0, .slo 5 off len k, .bool dt, .int .u64 sm] none), some (.cells [.int .i64 me, .int .i64 su, .int .i64 en, .int .i64 bu, .int .i64 er] none), some (.cells cs (some 2)), some (.cells [.int .i64 me, .int .i64 su, .int .i64 en, .int .i64 er, .int .i64 bu, .slo 7 0 m 0, .int .i64 at', .int .u64 sm] none), some (.cells cs (some 2)), some (.cells [.int .i64 0, .int .i64 0, .int .u64 0, .int .u64 0, .int .u64 0, .bool false, .int .i64 0, .int .u64 0, .bool false, .int .i64 0] none), some (.cells [.int .i64 0, .int .i64 0, .int .u64 0, .int .u64 0, .int .u64 0, .bool false, .int .i64 0, .int .u64 0, .bool false, .int .i64 0] none), some (.cells [.int .i64 6, .int .i64 0, .int .u64 0, .int .u64 0, .int .u64 0, .bool false, .int .i64 0, .int .u64 0, .bool false, .int .i64 0] none), some (.cells [.int .i64 6, .int .i64 0, .int .u64 0, .int .u64 0, .int .u64 0, .bool false, .int .i64 0, .int .u64 0, .bool false, .int .i64 0] none)] [])
      else (
       K .ret [.any, .any, .any, .slo 1 0 n1 0, .bool raw, .bool false, .slo 2 0 m 0, .any, .ptr 3 0, .ptr 6 0, .int .i64 ↑i] [some (.ro qx), some (.ro ax), some (.cells cs (some 2)), some (.cells [.ptr 4 0, .slo 5 off len k, .bool dt, .int .u64 sm] none), some (.cells [.int .i64 me, .int .i64 su, .int .i64 en, .int .i64 bu, .int .i64 er] none), some (.cells cs (some 2)), some (.cells [.int .i64 me, .int .i64 su, .int .i64 en, .int .i64 er, .int .i64 bu, .slo 7 0 m 0, .int .i64 at', .int .u64 sm] none), some (.cells cs (some 2)), some (.cells [.int .i64 0, .int .i64 0, .int .u64 0, .int .u64 0, .int .u64 0, .bool false, .int .i64 0, .int .u64 0, .bool false, .int .i64 0] none), some (.cells [.int .i64 0, .int .i64 0, .int .u64 0, .int .u64 0, .int .u64 0, .bool false, .int .i64 0, .int .u64 0, .bool false, .int .i64 0] none), some (.cells [.int .i64 6, .int .i64 0, .int .u64 0, .int .u64 0, .int .u64 0, .bool false, .int .i64 0, .int .u64 0, .bool false, .int .i64 0] none), some (.cells [.int .i64 6, .int .i64 0, .int .u64 0, .int .u64 0, .int .u64 0, .bool false, .int .i64 0, .int .u64 0, .bool false, .int .i64 0] none)] [])))
    else (
     bif xnn at' then
     bif xle (xadd (xnat at') 1) m then
     bif xle (xadd (xix 0 (xnat at') 2) 1) (xln cs) then
     bif isI .i64 (nthD cs (xix 0 (xnat at') 2)) then
     bif xcm .eql en 2 then (
      bif xnot (xbq false (xcm .eql en 0)) then (
       K .ret [.any, .any, .any, .slo 1 0 n1 0, .bool raw, .bool false, .slo 2 0 m 0, .any, .ptr 3 0, .ptr 6 0, .int .i64 ↑i] [some (.ro qx), some (.ro ax), some (.cells cs (some 2)), some (.cells [.ptr 4 0, .slo 5 off len k, .bool dt, .int .u64 sm] none), some (.cells [.int .i64 me, .int .i64 su, .int .i64 en, .int .i64 bu, .int .i64 er] none), some (.cells cs (some 2)), some (.cells [.int .i64 me, .int .i64 su, .int .i64 en, .int .i64 er, .int .i64 bu, .slo 7 0 m 0, .int .i64 at', .int .u64 sm] none), some (.cells cs (some 2)), some (.cells [.int .i64 0, .int .i64 0, .int .u64 0, .int .u64 0, .int .u64 0, .bool false, .int .i64 0, .int .u64 0, .bool false, .int .i64 0] none), some (.cells [.int .i64 0, .int .i64 0, .int .u64 0, .int .u64 0, .int .u64 0, .bool false, .int .i64 0, .int .u64 0, .bool false, .int .i64 0] none), some (.cells [.int .i64 3, .int .i64 (asI (nthD cs (xix 0 (xnat at') 2))), .int .u64 0, .int .u64 0, .int .u64 0, .bool false, .int .i64 0, .int .u64 0, .bool false, .int .i64 0] none), some (.cells [.int .i64 3, .int .i64 (asI (nthD cs (xix 0 (xnat at') 2))), .int .u64 0, .int .u64 0, .int .u64 0, .bool false, .int .i64 0, .int .u64 0, .bool false, .int .i64 0] none)] [])
      else (
       K .ret [.any, .any, .any, .slo 1 0 n1 0, .bool raw, .bool false, .slo 2 0 m 0, .any, .ptr 3 0, .ptr 6 0, .int .i64 ↑i] [some (.ro qx), some (.ro ax), some (.cells cs (some 2)), some (.cells [.ptr 4 0, .slo 5 off len k, .bool dt, .int .u64 sm] none), some (.cells [.int .i64 me, .int .i64 su, .int .i64 en, .int .i64 bu, .int .i64 er] none), some (.cells cs (some 2)), some (.cells [.int .i64 me, .int .i64 su, .int .i64 en, .int .i64 er, .int .i64 bu, .slo 7 0 m 0, .int .i64 at', .int .u64 sm] none), some (.cells cs (some 2)), some (.cells [.int .i64 0, .int .i64 0, .int .u64 0, .int .u64 0, .int .u64 0, .bool false, .int .i64 0, .int .u64 0, .bool false, .int .i64 0] none), some (.cells [.int .i64 0, .int .i64 0, .int .u64 0, .int .u64 0, .int .u64 0, .bool false, .int .i64 0, .int .u64 0, .bool false, .int .i64 0] none), some (.cells [.int .i64 3, .int .i64 (asI (nthD cs (xix 0 (xnat at') 2))), .int .u64 0, .int .u64 0, .int .u64 0, .bool false, .int .i64 0, .int .u64 0, .bool false, .int .i64 0] none), some (.cells [.int .i64 3, .int .i64 (asI (nthD cs (xix 0 (xnat at') 2))), .int .u64 0, .int .u64 0, .int .u64 0, .bool false, .int .i64 0, .int .u64 0, .bool false, .int .i64 0] none)] []))
     else (
      bif xnot (xbq false (xcm .eql en 0)) then (
       K .ret [.any, .any, .any, .slo 1 0 n1 0, .bool raw, .bool false, .slo 2 0 m 0, .any, .ptr 3 0, .ptr 6 0, .int .i64 ↑i] [some (.ro qx), some (.ro ax), some (.cells cs (some 2)), some (.cells [.ptr 4 0, .slo 5 off len k, .bool dt, .int .u64 sm] none), some (.cells [.int .i64 me, .int .i64 su, .int .i64 en, .int .i64 bu, .int .i64 er] none), some (.cells cs (some 2)), some (.cells [.int .i64 me, .int .i64 su, .int .i64 en, .int .i64 er, .int .i64 bu, .slo 7 0 m 0, .int .i64 at', .int .u64 sm] none), some (.cells cs (some 2)), some (.cells [.int .i64 0, .int .i64 0, .int .u64 0, .int .u64 0, .int .u64 0, .bool false, .int .i64 0, .int .u64 0, .bool false, .int .i64 0] none), some (.cells [.int .i64 0, .int .i64 0, .int .u64 0, .int .u64 0, .int .u64 0, .bool false, .int .i64 0, .int .u64 0, .bool false, .int .i64 0] none), some (.cells [.int .i64 3, .int .i64 (asI (nthD cs (xix 0 (xnat at') 2))), .int .u64 0, .int .u64 0, .int .u64 0, .bool false, .int .i64 0, .int .u64 0, .bool false, .int .i64 0] none), some (.cells [.int .i64 3, .int .i64 (asI (nthD cs (xix 0 (xnat at') 2))), .int .u64 0, .int .u64 0, .int .u64 0, .bool false, .int .i64 0, .int .u64 0, .bool false, .int .i64 0] none)] [])
      else (
       K .ret [.any, .any, .any, .slo 1 0 n1 0, .bool raw, .bool false, .slo 2 0 m 0, .any, .ptr 3 0, .ptr 6 0, .int .i64 ↑i] [some (.ro qx), some (.ro ax), some (.cells cs (some 2)), some (.cells [.ptr 4 0, .slo 5 off len k, .bool dt, .int .u64 sm] none), some (.cells [.int .i64 me, .int .i64 su, .int .i64 en, .int .i64 bu, .int .i64 er] none), some (.cells cs (some 2)), some (.cells [.int .i64 me, .int .i64 su, .int .i64 en, .int .i64 er, .int .i64 bu, .slo 7 0 m 0, .int .i64 at', .int .u64 sm] none), some (.cells cs (some 2)), some (.cells [.int .i64 0, .int .i64 0, .int .u64 0, .int .u64 0, .int .u64 0, .bool false, .int .i64 0, .int .u64 0, .bool false, .int .i64 0] none), some (.cells [.int .i64 0, .int .i64 0, .int .u64 0, .int .u64 0, .int .u64 0, .bool false, .int .i64 0, .int .u64 0, .bool false, .int .i64 0] none), some (.cells [.int .i64 3, .int .i64 (asI (nthD cs (xix 0 (xnat at') 2))), .int .u64 0, .int .u64 0, .int .u64 0, .bool false, .int .i64 0, .int .u64 0, .bool false, .int .i64 0] none), some (.cells [.int .i64 3, .int .i64 (asI (nthD cs (xix 0 (xnat at') 2))), .int .u64 0, .int .u64 0, .int .u64 0, .bool false, .int .i64 0, .int .u64 0, .bool false, .int .i64 0] none)] []))
     else False
     else False
     else False
     else False))
   else (
    bif xcm .eql en 2 then (
     bif xnot (xbq false (xcm .eql en 0)) then (
      K .ret [.any, .any, .any, .slo 1 0 n1 0, .bool raw, .bool false, .slo 2 0 m 0, .any, .ptr 3 0, .ptr 6 0, .int .i64 ↑i] [some (.ro qx), some (.ro ax), some (.cells cs (some 2)), some (.cells [.ptr 4 0, .slo 5 off len k, .bool dt, .int .u64 sm] none), some (.cells [.int .i64 me, .int .i64 su, .int .i64 en, .int .i64 bu, .int .i64 er] none), some (.cells cs (some 2)), some (.cells [.int .i64 me, .int .i64 su, .int .i64 en, .int .i64 er, .int .i64 bu, .slo 7 0 m 0, .int .i64 at', .int .u64 sm] none), some (.cells cs (some 2)), some (.cells [.int .i64 0, .int .i64 0, .int .u64 0, .int .u64 0, .int .u64 0, .bool false, .int .i64 0, .int .u64 0, .bool false, .int .i64 0] none), some (.cells [.int .i64 0, .int .i64 0, .int .u64 0, .int .u64 0, .int .u64 0, .bool false, .int .i64 0, .int .u64 0, .bool false, .int .i64 0] none), some (.cells [.int .i64 0, .int .i64 0, .int .u64 0, .int .u64 0, .int .u64 0, .bool false, .int .i64 0, .int .u64 0, .bool false, .int .i64 0] none)] [])
     else (
      bif xcm .neq en en then (
       bif xcm .eql en en then
       bif xcm .eql en en then
       K .ret [.any, .any, .any, .slo 1 0 n1 0, .bool raw, .bool false, .slo 2 0 m 0, .any, .ptr 3 0, .ptr 6 0, .int .i64 ↑i] [some (.ro qx), some (.ro ax), some (.cells cs (some 2)), some (.cells [.ptr 4 0, .slo 5 off len k, .bool dt, .int .u64 sm] none), some (.cells [.int .i64 me, .int .i64 su, .int .i64 en, .int .i64 bu, .int .i64 er] none), some (.cells cs (some 2)), some (.cells [.int .i64 me, .int .i64 su, .int .i64 en, .int .i64 er, .int .i64 bu, .slo 7 0 m 0, .int .i64 at', .int .u64 sm] none), some (.cells cs (some 2)), some (.cells [.int .i64 0, .int .i64 0, .int .u64 0, .int .u64 0, .int .u64 0, .bool false, .int .i64 0, .int .u64 0, .bool false, .int .i64 0] none), some (.cells [.int .i64 0, .int .i64 0, .int .u64 0, .int .u64 0, .int .u64 0, .bool false, .int .i64 0, .int .u64 0, .bool false, .int .i64 0] none), some (.cells [.int .i64 0, .int .i64 0, .int .u64 0, .int .u64 0, .int .u64 0, .bool false, .int .i64 0, .int .u64 0, .bool false, .int .i64 0] none)] []
       else False
       else False)
      else (
       bif xcm .neq er er then (
        bif xcm .eql en en then
        bif xcm .eql en en then
        bif xcm .eql er er then
        bif xcm .eql er er then
        K .ret [.any, .any, .any, .slo 1 0 n1 0, .bool raw, .bool false, .slo 2 0 m 0, .any, .ptr 3 0, .ptr 6 0, .int .i64 ↑i] [some (.ro qx), some (.ro ax), some (.cells cs (some 2)), some (.cells [.ptr 4 0, .slo 5 off len k, .bool dt, .int .u64 sm] none), some (.cells [.int .i64 me, .int .i64 su, .int .i64 en, .int .i64 bu, .int .i64 er] none), some (.cells cs (some 2)), some (.cells [.int .i64 me, .int .i64 su, .int .i64 en, .int .i64 er, .int .i64 bu, .slo 7 0 m 0, .int .i64 at', .int .u64 sm] none), some (.cells cs (some 2)), some (.cells [.int .i64 0, .int .i64 0, .int .u64 0, .int .u64 0, .int .u64 0, .bool false, .int .i64 0, .int .u64 0, .bool false, .int .i64 0] none), some (.cells [.int .i64 0, .int .i64 0, .int .u64 0, .int .u64 0, .int .u64 0, .bool false, .int .i64 0, .int .u64 0, .bool false, .int .i64 0] none), some (.cells [.int .i64 0, .int .i64 0, .int .u64 0, .int .u64 0, .int .u64 0, .bool false, .int .i64 0, .int .u64 0, .bool false, .int .i64 0] none)] []
        else False
        else False
        else False
        else False)
       else (
        bif xcm .neq bu bu then (
         bif xcm .eql en en then
         bif xcm .eql en en then
         bif xcm .eql er er then
         bif xcm .eql er er then
         bif xcm .eql bu bu then
         bif xcm .eql bu bu then
         K .ret [.any, .any, .any, .slo 1 0 n1 0, .bool raw, .bool false, .slo 2 0 m 0, .any, .ptr 3 0, .ptr 6 0, .int .i64 ↑i] [some (.ro qx), some (.ro ax), some (.cells cs (some 2)), some (.cells [.ptr 4 0, .slo 5 off len k, .bool dt, .int .u64 sm] none), some (.cells [.int .i64 me, .int .i64 su, .int .i64 en, .int .i64 bu, .int .i64 er] none), some (.cells cs (some 2)), some (.cells [.int .i64 me, .int .i64 su, .int .i64 en, .int .i64 er, .int .i64 bu, .slo 7 0 m 0, .int .i64 at', .int .u64 sm] none), some (.cells cs (some 2)), some (.cells [.int .i64 0, .int .i64 0, .int .u64 0, .int .u64 0, .int .u64 0, .bool false, .int .i64 0, .int .u64 0, .bool false, .int .i64 0] none), some (.cells [.int .i64 0, .int .i64 0, .int .u64 0, .int .u64 0, .int .u64 0, .bool false, .int .i64 0, .int .u64 0, .bool false, .int .i64 0] none), some (.cells [.int .i64 0, .int .i64 0, .int .u64 0, .int .u64 0, .int .u64 0, .bool false, .int .i64 0, .int .u64 0, .bool false, .int .i64 0] none)] []
         else False
         else False
         else False
         else False
         else False
         else False)
        else (
         bif xcm .neq en 2 then (
          bif xcm .eql en en then
          bif xcm .eql en en then
          bif xcm .eql er er then
          bif xcm .eql er er then
          bif xcm .eql bu bu then
          bif xcm .eql bu bu then
          bif xcm .neq 0 sm then (
           K .ret [.any, .any, .any, .slo 1 0 n1 0, .bool raw, .bool false, .slo 2 0 m 0, .any, .ptr 3 0, .ptr 6 0, .int .i64 ↑i] [some (.ro qx), some (.ro ax), some (.cells cs (some 2)), some (.cells [.ptr 4 0, .slo 5 off len k, .bool dt, .int .u64 sm] none), some (.cells [.int .i64 me, .int .i64 su, .int .i64 en, .int .i64 bu, .int .i64 er] none), some (.cells cs (some 2)), some (.cells [.int .i64 me, .int .i64 su, .int .i64 en, .int .i64 er, .int .i64 bu, .slo 7 0 m 0, .int .i64 at', .int .u64 sm] none), some (.cells cs (some 2)), some (.cells [.int .i64 0, .int .i64 0, .int .u64 0, .int .u64 0, .int .u64 0, .bool false, .int .i64 0, .int .u64 0, .bool false, .int .i64 0] none), some (.cells [.int .i64 0, .int .i64 0, .int .u64 0, .int .u64 0, .int .u64 0, .bool false, .int .i64 0, .int .u64 0, .bool false, .int .i64 0] none), some (.cells [.int .i64 0, .int .i64 0, .int .u64 0, .int .u64 0, .int .u64 0, .bool false, .int .i64 0, .int .u64 0, .bool false, .int .i64 0] none)] [])
          else (
           K .normal [.any, .any, .any, .slo 1 0 n1 0, .bool raw, .any, .slo 2 0 m 0, .any, .ptr 3 0, .ptr 6 0, .int .i64 ↑i] [some (.ro qx), some (.ro ax), some (.cells cs (some 2)), some (.cells [.ptr 4 0, .slo 5 off len k, .bool dt, .int .u64 sm] none), some (.cells [.int .i64 me, .int .i64 su, .int .i64 en, .int .i64 bu, .int .i64 er] none), some (.cells cs (some 2)), some (.cells [.int .i64 me, .int .i64 su, .int .i64 en, .int .i64 er, .int .i64 bu, .slo 7 0 m 0, .int .i64 at', .int .u64 sm] none), some (.cells cs (some 2)), some (.cells [.int .i64 0, .int .i64 0, .int .u64 0, .int .u64 0, .int .u64 0, .bool false, .int .i64 0, .int .u64 0, .bool false, .int .i64 0] none), some (.cells [.int .i64 0, .int .i64 0, .int .u64 0, .int .u64 0, .int .u64 0, .bool false, .int .i64 0, .int .u64 0, .bool false, .int .i64 0] none), some (.cells [.int .i64 0, .int .i64 0, .int .u64 0, .int .u64 0, .int .u64 0, .bool false, .int .i64 0, .int .u64 0, .bool false, .int .i64 0] none)] [])
          else False
          else False
          else False
          else False
          else False
          else False)
         else (
          bif xcm .eql en en then
          bif xcm .eql en en then
          bif xcm .eql er er then
          bif xcm .eql er er then
          bif xcm .eql bu bu then
          bif xcm .eql bu bu then
          bif xcm .neq sm sm then (
           K .ret [.any, .any, .any, .slo 1 0 n1 0, .bool raw, .bool false, .slo 2 0 m 0, .any, .ptr 3 0, .ptr 6 0, .int .i64 ↑i] [some (.ro qx), some (.ro ax), some (.cells cs (some 2)), some (.cells [.ptr 4 0, .slo 5 off len k, .bool dt, .int .u64 sm] none), some (.cells [.int .i64 me, .int .i64 su, .int .i64 en, .int .i64 bu, .int .i64 er] none), some (.cells cs (some 2)), some (.cells [.int .i64 me, .int .i64 su, .int .i64 en, .int .i64 er, .int .i64 bu, .slo 7 0 m 0, .int .i64 at', .int .u64 sm] none), some (.cells cs (some 2)), some (.cells [.int .i64 0, .int .i64 0, .int .u64 0, .int .u64 0, .int .u64 0, .bool false, .int .i64 0, .int .u64 0, .bool false, .int .i64 0] none), some (.cells [.int .i64 0, .int .i64 0, .int .u64 0, .int .u64 0, .int .u64 0, .bool false, .int .i64 0, .int .u64 0, .bool false, .int .i64 0] none), some (.cells [.int .i64 0, .int .i64 0, .int .u64 0, .int .u64 0, .int .u64 0, .bool false, .int .i64 0, .int .u64 0, .bool false, .int .i64 0] none)] [])
          else (
           K .normal [.any, .any, .any, .slo 1 0 n1 0, .bool raw, .any, .slo 2 0 m 0, .any, .ptr 3 0, .ptr 6 0, .int .i64 ↑i] [some (.ro qx), some (.ro ax), some (.cells cs (some 2)), some (.cells [.ptr 4 0, .slo 5 off len k, .bool dt, .int .u64 sm] none), some (.cells [.int .i64 me, .int .i64 su, .int .i64 en, .int .i64 bu, .int .i64 er] none), some (.cells cs (some 2)), some (.cells [.int .i64 me, .int .i64 su, .int .i64 en, .int .i64 er, .int .i64 bu, .slo 7 0 m 0, .int .i64 at', .int .u64 sm] none), some (.cells cs (some 2)), some (.cells [.int .i64 0, .int .i64 0, .int .u64 0, .int .u64 0, .int .u64 0, .bool false, .int .i64 0, .int .u64 0, .bool false, .int .i64 0] none), some (.cells [.int .i64 0, .int .i64 0, .int .u64 0, .int .u64 0, .int .u64 0, .bool false, .int .i64 0, .int .u64 0, .bool false, .int .i64 0] none), some (.cells [.int .i64 0, .int .i64 0, .int .u64 0, .int .u64 0, .int .u64 0, .bool false, .int .i64 0, .int .u64 0, .bool false, .int .i64 0] none)] [])
          else False
          else False
          else False
          else False
          else False
          else False))))))
    else (
     bif xnot (xbq false (xcm .eql en 0)) then (
      K .ret [.any, .any, .any, .slo 1 0 n1 0, .bool raw, .bool false, .slo 2 0 m 0, .any, .ptr 3 0, .ptr 6 0, .int .i64 ↑i] [some (.ro qx), some (.ro ax), some (.cells cs (some 2)), some (.cells [.ptr 4 0, .slo 5 off len k, .bool dt, .int .u64 sm] none), some (.cells [.int .i64 me, .int .i64 su, .int .i64 en, .int .i64 bu, .int .i64 er] none), some (.cells cs (some 2)), some (.cells [.int .i64 me, .int .i64 su, .int .i64 en, .int .i64 er, .int .i64 bu, .slo 7 0 m 0, .int .i64 at', .int .u64 sm] none), some (.cells cs (some 2)), some (.cells [.int .i64 0, .int .i64 0, .int .u64 0, .int .u64 0, .int .u64 0, .bool false, .int .i64 0, .int .u64 0, .bool false, .int .i64 0] none), some (.cells [.int .i64 0, .int .i64 0, .int .u64 0, .int .u64 0, .int .u64 0, .bool false, .int .i64 0, .int .u64 0, .bool false, .int .i64 0] none), some (.cells [.int .i64 0, .int .i64 0, .int .u64 0, .int .u64 0, .int .u64 0, .bool false, .int .i64 0, .int .u64 0, .bool false, .int .i64 0] none)] [])
     else (
      bif xcm .neq en en then (
       bif xcm .eql en en then
       bif xcm .eql en en then
       K .ret [.any, .any, .any, .slo 1 0 n1 0, .bool raw, .bool false, .slo 2 0 m 0, .any, .ptr 3 0, .ptr 6 0, .int .i64 ↑i] [some (.ro qx), some (.ro ax), some (.cells cs (some 2)), some (.cells [.ptr 4 0, .slo 5 off len k, .bool dt, .int .u64 sm] none), some (.cells [.int .i64 me, .int .i64 su, .int .i64 en, .int .i64 bu, .int .i64 er] none), some (.cells cs (some 2)), some (.cells [.int .i64 me, .int .i64 su, .int .i64 en, .int .i64 er, .int .i64 bu, .slo 7 0 m 0, .int .i64 at', .int .u64 sm] none), some (.cells cs (some 2)), some (.cells [.int .i64 0, .int .i64 0, .int .u64 0, .int .u64 0, .int .u64 0, .bool false, .int .i64 0, .int .u64 0, .bool false, .int .i64 0] none), some (.cells [.int .i64 0, .int .i64 0, .int .u64 0, .int .u64 0, .int .u64 0, .bool false, .int .i64 0, .int .u64 0, .bool false, .int .i64 0] none), some (.cells [.int .i64 0, .int .i64 0, .int .u64 0, .int .u64 0, .int .u64 0, .bool false, .int .i64 0, .int .u64 0, .bool false, .int .i64 0] none)] []
       else False
       else False)
      else (
       bif xcm .neq er er then (
        bif xcm .eql en en then
        bif xcm .eql en en then
        bif xcm .eql er er then
        bif xcm .eql er er then
        K .ret [.any, .any, .any, .slo 1 0 n1 0, .bool raw, .bool false, .slo 2 0 m 0, .any, .ptr 3 0, .ptr 6 0, .int .i64 ↑i] [some (.ro qx), some (.ro ax), some (.cells cs (some 2)), some (.cells [.ptr 4 0, .slo 5 off len k, .bool dt, .int .u64 sm] none), some (.cells [.int .i64 me, .int .i64 su, .int .i64 en, .int .i64 bu, .int .i64 er] none), some (.cells cs (some 2)), some (.cells [.int .i64 me, .int .i64 su, .int .i64 en, .int .i64 er, .int .i64 bu, .slo 7 0 m 0, .int .i64 at', .int .u64 sm] none), some (.cells cs (some 2)), some (.cells [.int .i64 0, .int .i64 0, .int .u64 0, .int .u64 0, .int .u64 0, .bool false, .int .i64 0, .int .u64 0, .bool false, .int .i64 0] none), some (.cells [.int .i64 0, .int .i64 0, .int .u64 0, .int .u64 0, .int .u64 0, .bool false, .int .i64 0, .int .u64 0, .bool false, .int .i64 0] none), some (.cells [.int .i64 0, .int .i64 0, .int .u64 0, .int .u64 0, .int .u64 0, .bool false, .int .i64 0, .int .u64 0, .bool false, .int .i64 0] none)] []
        else False
        else False
        else False
        else False)
       else (
        bif xcm .neq bu bu then (
         bif xcm .eql en en then
         bif xcm .eql en en then
         bif xcm .eql er er then
         bif xcm .eql er er then
         bif xcm .eql bu bu then
         bif xcm .eql bu bu then
         K .ret [.any, .any, .any, .slo 1 0 n1 0, .bool raw, .bool false, .slo 2 0 m 0, .any, .ptr 3 0, .ptr 6 0, .int .i64 ↑i] [some (.ro qx), some (.ro ax), some (.cells cs (some 2)), some (.cells [.ptr 4 0, .slo 5 off len k, .bool dt, .int .u64 sm] none), some (.cells [.int .i64 me, .int .i64 su, .int .i64 en, .int .i64 bu, .int .i64 er] none), some (.cells cs (some 2)), some (.cells [.int .i64 me, .int .i64 su, .int .i64 en, .int .i64 er, .int .i64 bu, .slo 7 0 m 0, .int .i64 at', .int .u64 sm] none), some (.cells cs (some 2)), some (.cells [.int .i64 0, .int .i64 0, .int .u64 0, .int .u64 0, .int .u64 0, .bool false, .int .i64 0, .int .u64 0, .bool false, .int .i64 0] none), some (.cells [.int .i64 0, .int .i64 0, .int .u64 0, .int .u64 0, .int .u64 0, .bool false, .int .i64 0, .int .u64 0, .bool false, .int .i64 0] none), some (.cells [.int .i64 0, .int .i64 0, .int .u64 0, .int .u64 0, .int .u64 0, .bool false, .int .i64 0, .int .u64 0, .bool false, .int .i64 0] none)] []
         else False
         else False
         else False
         else False
         else False
         else False)
        else (
         bif xcm .neq en 2 then (
          bif xcm .eql en en then
          bif xcm .eql en en then
          bif xcm .eql er er then
          bif xcm .eql er er then
          bif xcm .eql bu bu then
          bif xcm .eql bu bu then
          K .normal [.any, .any, .any, .slo 1 0 n1 0, .bool raw, .any, .slo 2 0 m 0, .any, .ptr 3 0, .ptr 6 0, .int .i64 ↑i] [some (.ro qx), some (.ro ax), some (.cells cs (some 2)), some (.cells [.ptr 4 0, .slo 5 off len k, .bool dt, .int .u64 sm] none), some (.cells [.int .i64 me, .int .i64 su, .int .i64 en, .int .i64 bu, .int .i64 er] none), some (.cells cs (some 2)), some (.cells [.int .i64 me, .int .i64 su, .int .i64 en, .int .i64 er, .int .i64 bu, .slo 7 0 m 0, .int .i64 at', .int .u64 sm] none), some (.cells cs (some 2)), some (.cells [.int .i64 0, .int .i64 0, .int .u64 0, .int .u64 0, .int .u64 0, .bool false, .int .i64 0, .int .u64 0, .bool false, .int .i64 0] none), some (.cells [.int .i64 0, .int .i64 0, .int .u64 0, .int .u64 0, .int .u64 0, .bool false, .int .i64 0, .int .u64 0, .bool false, .int .i64 0] none), some (.cells [.int .i64 0, .int .i64 0, .int .u64 0, .int .u64 0, .int .u64 0, .bool false, .int .i64 0, .int .u64 0, .bool false, .int .i64 0] none)] []
          else False
          else False
          else False
          else False
          else False
          else False)
         else (
          bif xcm .eql en en then
          bif xcm .eql en en then
          bif xcm .eql er er then
          bif xcm .eql er er then
          bif xcm .eql bu bu then
          bif xcm .eql bu bu then
          bif xcm .neq sm 0 then (
           K .ret [.any, .any, .any, .slo 1 0 n1 0, .bool raw, .bool false, .slo 2 0 m 0, .any, .ptr 3 0, .ptr 6 0, .int .i64 ↑i] [some (.ro qx), some (.ro ax), some (.cells cs (some 2)), some (.cells [.ptr 4 0, .slo 5 off len k, .bool dt, .int .u64 sm] none), some (.cells [.int .i64 me, .int .i64 su, .int .i64 en, .int .i64 bu, .int .i64 er] none), some (.cells cs (some 2)), some (.cells [.int .i64 me, .int .i64 su, .int .i64 en, .int .i64 er, .int .i64 bu, .slo 7 0 m 0, .int .i64 at', .int .u64 sm] none), some (.cells cs (some 2)), some (.cells [.int .i64 0, .int .i64 0, .int .u64 0, .int .u64 0, .int .u64 0, .bool false, .int .i64 0, .int .u64 0, .bool false, .int .i64 0] none), some (.cells [.int .i64 0, .int .i64 0, .int .u64 0, .int .u64 0, .int .u64 0, .bool false, .int .i64 0, .int .u64 0, .bool false, .int .i64 0] none), some (.cells [.int .i64 0, .int .i64 0, .int .u64 0, .int .u64 0, .int .u64 0, .bool false, .int .i64 0, .int .u64 0, .bool false, .int .i64 0] none)] [])
          else (
           K .normal [.any, .any, .any, .slo 1 0 n1 0, .bool raw, .any, .slo 2 0 m 0, .any, .ptr 3 0, .ptr 6 0, .int .i64 ↑i] [some (.ro qx), some (.ro ax), some (.cells cs (some 2)), some (.cells [.ptr 4 0, .slo 5 off len k, .bool dt, .int .u64 sm] none), some (.cells [.int .i64 me, .int .i64 su, .int .i64 en, .int .i64 bu, .int .i64 er] none), some (.cells cs (some 2)), some (.cells [.int .i64 me, .int .i64 su, .int .i64 en, .int .i64 er, .int .i64 bu, .slo 7 0 m 0, .int .i64 at', .int .u64 sm] none), some (.cells cs (some 2)), some (.cells [.int .i64 0, .int .i64 0, .int .u64 0, .int .u64 0, .int .u64 0, .bool false, .int .i64 0, .int .u64 0, .bool false, .int .i64 0] none), some (.cells [.int .i64 0, .int .i64 0, .int .u64 0, .int .u64 0, .int .u64 0, .bool false, .int .i64 0, .int .u64 0, .bool false, .int .i64 0] none), some (.cells [.int .i64 0, .int .i64 0, .int .u64 0, .int .u64 0, .int .u64 0, .bool false, .int .i64 0, .int .u64 0, .bool false, .int .i64 0] none)] [])
          else False
          else False
          else False
          else False
          else False
          else False))))))))
  else (
   bif xnot dt then (
    bif xcm .eql en 0 then (
     bif xcm .lss at' 0 then (
      bif xcm .eql en 2 then (
       bif xnot (xbq true (xcm .eql en 0)) then (
        K .ret [.any, .any, .any, .slo 1 0 n1 0, .bool raw, .bool false, .slo 2 0 m 0, .any, .ptr 3 0, .ptr 6 0, .int .i64 ↑i] [some (.ro qx), some (.ro ax), some (.cells cs (some 2)), some (.cells [.ptr 4 0, .slo 5 off len k, .bool dt, .int .u64 sm] none), some (.cells [.int .i64 me, .int .i64 su, .int .i64 en, .int .i64 bu, .int .i64 er] none), some (.cells cs (some 2)), some (.cells [.int .i64 me, .int .i64 su, .int .i64 en, .int .i64 er, .int .i64 bu, .slo 7 0 m 0, .int .i64 at', .int .u64 sm] none), some (.cells cs (some 2)), some (.cells [.int .i64 6, .int .i64 0, .int .u64 0, .int .u64 0, .int .u64 0, .bool false, .int .i64 0, .int .u64 0, .bool false, .int .i64 0] none), some (.cells [.int .i64 6, .int .i64 0, .int .u64 0, .int .u64 0, .int .u64 0, .bool false, .int .i64 0, .int .u64 0, .bool false, .int .i64 0] none), some (.cells [.int .i64 6, .int .i64 0, .int .u64 0, .int .u64 0, .int .u64 0, .bool false, .int .i64 0, .int .u64 0, .bool false, .int .i64 0] none), some (.cells [.int .i64 6, .int .i64 0, .int .u64 0, .int .u64 0, .int .u64 0, .bool false, .int .i64 0, .int .u64 0, .bool false, .int .i64 0] none)] [])
       else (
        bif xcm .neq en en then (
         bif xcm .eql en en then
         bif xcm .eql en en then
         K .ret [.any, .any, .any, .slo 1 0 n1 0, .bool raw, .bool false, .slo 2 0 m 0, .any, .ptr 3 0, .ptr 6 0, .int .i64 ↑i] [some (.ro qx), some (.ro ax), some (.cells cs (some 2)), some (.cells [.ptr 4 0, .slo 5 off len k, .bool dt, .int .u64 sm] none), some (.cells [.int .i64 me, .int .i64 su, .int .i64 en, .int .i64 bu, .int .i64 er] none), some (.cells cs (some 2)), some (.cells [.int .i64 me, .int .i64 su, .int .i64 en, .int .i64 er, .int .i64 bu, .slo 7 0 m 0, .int .i64 at', .int .u64 sm] none), some (.cells cs (some 2)), some (.cells [.int .i64 6, .int .i64 0, .int .u64 0, .int .u64 0, .int .u64 0, .bool false, .int .i64 0, .int .u64 0, .bool false, .int .i64 0] none), some (.cells [.int .i64 6, .int .i64 0, .int .u64 0, .int .u64 0, .int .u64 0, .bool false, .int .i64 0, .int .u64 0, .bool false, .int .i64 0] none), some (.cells [.int .i64 6, .int .i64 0, .int .u64 0, .int .u64 0, .int .u64 0, .bool false, .int .i64 0, .int .u64 0, .bool false, .int .i64 0] none), some (.cells [.int .i64 6, .int .i64 0, .int .u64 0, .int .u64 0, .int .u64 0, .bool false, .int .i64 0, .int .u64 0, .bool false, .int .i64 0] none)] []
         else False
         else False)
        else (
         bif xcm .neq er er then (
          bif xcm .eql en en then
          bif xcm .eql en en then
          bif xcm .eql er er then
          bif xcm .eql er er then
          K .ret [.any, .any, .any, .slo 1 0 n1 0, .bool raw, .bool false, .slo 2 0 m 0, .any, .ptr 3 0, .ptr 6 0, .int .i64 ↑i] [some (.ro qx), some (.ro ax), some (.cells cs (some 2)), some (.cells [.ptr 4 0, .slo 5 off len k, .bool dt, .int .u64 sm] none), some (.cells [.int .i64 me, .int .i64 su, .int .i64 en, .int .i64 bu, .int .i64 er] none), some (.cells cs (some 2)), some (.cells [.int .i64 me, .int .i64 su, .int .i64 en, .int .i64 er, .int .i64 bu, .slo 7 0 m 0, .int .i64 at', .int .u64 sm] none), some (.cells cs (some 2)), some (.cells [.int .i64 6, .int .i64 0, .int .u64 0, .int .u64 0, .int .u64 0, .bool false, .int .i64 0, .int .u64 0, .bool false, .int .i64 0] none), some (.cells [.int .i64 6, .int .i64 0, .int .u64 0, .int .u64 0, .int .u64 0, .bool false, .int .i64 0, .int .u64 0, .bool false, .int .i64 0] none), some (.cells [.int .i64 6, .int .i64 0, .int .u64 0, .int .u64 0, .int .u64 0, .bool false, .int .i64 0, .int .u64 0, .bool false, .int .i64 0] none), some (.cells [.int .i64 6, .int .i64 0, .int .u64 0, .int .u64 0, .int .u64 0, .bool false, .int .i64 0, .int .u64 0, .bool false, .int .i64 0] none)] []
          else False
          else False
          else False
          else False)
         else (
          bif xcm .neq bu bu then (
           bif xcm .eql en en then
           bif xcm .eql en en then
           bif xcm .eql er er then
           bif xcm .eql er er then
           bif xcm .eql bu bu then
           bif xcm .eql bu bu then
           K .ret [.any, .any, .any, .slo 1 0 n1 0, .bool raw, .bool false, .slo 2 0 m 0, .any, .ptr 3 0, .ptr 6 0, .int .i64 ↑i] [some (.ro qx), some (.ro ax), some (.cells cs (some 2)), some (.cells [.ptr 4 0, .slo 5 off len k, .bool dt, .int .u64 sm] none), some (.cells [.int .i64 me, .int .i64 su, .int .i64 en, .int .i64 bu, .int .i64 er] none), some (.cells cs (some 2)), some (.cells [.int .i64 me, .int .i64 su, .int .i64 en, .int .i64 er, .int .i64 bu, .slo 7 0 m 0, .int .i64 at', .int .u64 sm] none), some (.cells cs (some 2)), some (.cells [.int .i64 6, .int .i64 0, .int .u64 0, .int .u64 0, .int .u64 0, .bool false, .int .i64 0, .int .u64 0, .bool false, .int .i64 0] none), some (.cells [.int .i64 6, .int .i64 0, .int .u64 0, .int .u64 0, .int .u64 0, .bool false, .int .i64 0, .int .u64 0, .bool false, .int .i64 0] none), some (.cells [.int .i64 6, .int .i64 0, .int .u64 0, .int .u64 0, .int .u64 0, .bool false, .int .i64 0, .int .u64 0, .bool false, .int .i64 0] none), some (.cells [.int .i64 6, .int .i64 0, .int .u64 0, .int .u64 0, .int .u64 0, .bool false, .int .i64 0, .int .u64 0, .bool false, .int .i64 0] none)] []
           else False
           else False
           else False
           else False
           else False
           else False)
          else (
           bif xcm .neq en 2 then (
            bif xcm .eql en en then
            bif xcm .eql en en then
            bif xcm .eql er er then
            bif xcm .eql er er then
            bif xcm .eql bu bu then
            bif xcm .eql bu bu then
            bif xcm .neq 0 sm then (
             K .ret [.any, .any, .any, .slo 1 0 n1 0, .bool raw, .bool false, .slo 2 0 m 0, .any, .ptr 3 0, .ptr 6 0, .int .i64 ↑i] [some (.ro qx), some (.ro ax), some (.cells cs (some 2)), some (.cells [.ptr 4 0, .slo 5 off len k, .bool dt, .int .u64 sm] none), some (.cells [.int .i64 me, .int .i64 su, .int .i64 en, .int .i64 bu, .int .i64 er] none), some (.cells cs (some 2)), some (.cells [.int .i64 me, .int .i64 su, .int .i64 en, .int .i64 er, .int .i64 bu, .slo 7 0 m 0, .int .i64 at', .int .u64 sm] none), some (.cells cs (some 2)), some (.cells [.int .i64 6, .int .i64 0, .int .u64 0, .int .u64 0, .int .u64 0, .bool false, .int .i64 0, .int .u64 0, .bool false, .int .i64 0] none), some (.cells [.int .i64 6, .int .i64 0, .int .u64 0, .int .u64 0, .int .u64 0, .bool false, .int .i64 0, .int .u64 0, .bool false, .int .i64 0] none), some (.cells [.int .i64 6, .int .i64 0, .int .u64 0, .int .u64 0, .int .u64 0, .bool false, .int .i64 0, .int .u64 0, .bool false, .int .i64 0] none), some (.cells [.int .i64 6, .int .i64 0, .int .u64 0, .int .u64 0, .int .u64 0, .bool false, .int .i64 0, .int .u64 0, .bool false, .int .i64 0] none)] [])
            else (
             K .normal [.any, .any, .any, .slo 1 0 n1 0, .bool raw, .any, .slo 2 0 m 0, .any, .ptr 3 0, .ptr 6 0, .int .i64 ↑i] [some (.ro qx), some (.ro ax), some (.cells cs (some 2)), some (.cells [.ptr 4 0, .slo 5 off len k, .bool dt, .int .u64 sm] none), some (.cells [.int .i64 me, .int .i64 su, .int .i64 en, .int .i64 bu, .int .i64 er] none), some (.cells cs (some 2)), some (.cells [.int .i64 me, .int .i64 su, .int .i64 en, .int .i64 er, .int .i64 bu, .slo 7 0 m 0, .int .i64 at', .int .u64 sm] none), some (.cells cs (some 2)), some (.cells [.int .i64 6, .int .i64 0, .int .u64 0, .int .u64 0, .int .u64 0, .bool false, .int .i64 0, .int .u64 0, .bool false, .int .i64 0] none), some (.cells [.int .i64 6, .int .i64 0, .int .u64 0, .int .u64 0, .int .u64 0, .bool false, .int .i64 0, .int .u64 0, .bool false, .int .i64 0] none), some (.cells [.int .i64 6, .int .i64 0, .int .u64 0, .int .u64 0, .int .u64 0, .bool false, .int .i64 0, .int .u64 0, .bool false, .int .i64 0] none), some (.cells [.int .i64 6, .int .i64 0, .int .u64 0, .int .u64 0, .int .u64 0, .bool false, .int .i64 0, .int .u64 0, .bool false, .int .i64 0] none)] [])
            else False
            else False
            else False
            else False
            else False
            else False)
           else (
            bif xcm .eql en en then
            bif xcm .eql en en then
            bif xcm .eql er er then
            bif xcm .eql er er then
            bif xcm .eql bu bu then
            bif xcm .eql bu bu then
            bif xcm .neq sm sm then (
             K .ret [.any, .any, .any, .slo 1 0 n1 0, .bool raw, .bool false, .slo 2 0 m 0, .any, .ptr 3 0, .ptr 6 0, .int .i64 ↑i] [some (.ro qx), some (.ro ax), some (.cells cs (some 2)), some (.cells [.ptr 4 0, .slo 5 off len k, .bool dt, .int .u64 sm] none), some (.cells [.int .i64 me, .int .i64 su, .int .i64 en, .int .i64 bu, .int .i64 er] none), some (.cells cs (some 2)), some (.cells [.int .i64 me, .int .i64 su, .int .i64 en, .int .i64 er, .int .i64 bu, .slo 7 0 m 0, .int .i64 at', .int .u64 sm] none), some (.cells cs (some 2)), some (.cells [.int .i64 6, .int .i64 0, .int .u64 0, .int .u64 0, .int .u64 0, .bool false, .int .i64 0, .int .u64 0, .bool false, .int .i64 0] none), some (.cells [.int .i64 6, .int .i64 0, .int .u64 0, .int .u64 0, .int .u64 0, .bool false, .int .i64 0, .int .u64 0, .bool false, .int .i64 0] none), some (.cells [.int .i64 6, .int .i64 0, .int .u64 0, .int .u64 0, .int .u64 0, .bool false, .int .i64 0, .int .u64 0, .bool false, .int .i64 0] none), some (.cells [.int .i64 6, .int .i64 0, .int .u64 0, .int .u64 0, .int .u64 0, .bool false, .int .i64 0, .int .u64 0, .bool false, .int .i64 0] none)] [])
            else (
             K .normal [.any, .any, .any, .slo 1 0 n1 0, .bool raw, .any, .slo 2 0 m 0, .any, .ptr 3 0, .ptr 6 0, .int .i64 ↑i] [some (.ro qx), some (.ro ax), some (.cells cs (some 2)), some (.cells [.ptr 4 0, .slo 5 off len k, .bool dt, .int .u64 sm] none), some (.cells [.int .i64 me, .int .i64 su, .int .i64 en, .int .i64 bu, .int .i64 er] none), some (.cells cs (some 2)), some (.cells [.int .i64 me, .int .i64 su, .int .i64 en, .int .i64 er, .int .i64 bu, .slo 7 0 m 0, .int .i64 at', .int .u64 sm] none), some (.cells cs (some 2)), some (.cells [.int .i64 6, .int .i64 0, .int .u64 0, .int .u64 0, .int .u64 0, .bool false, .int .i64 0, .int .u64 0, .bool false, .int .i64 0] none), some (.cells [.int .i64 6, .int .i64 0, .int .u64 0, .int .u64 0, .int .u64 0, .bool false, .int .i64 0, .int .u64 0, .bool false, .int .i64 0] none), some (.cells [.int .i64 6, .int .i64 0, .int .u64 0, .int .u64 0, .int .u64 0, .bool false, .int .i64 0, .int .u64 0, .bool false, .int .i64 0] none), some (.cells [.int .i64 6, .int .i64 0, .int .u64 0, .int .u64 0, .int .u64 0, .bool false, .int .i64 0, .int .u64 0, .bool false, .int .i64 0] none)] [])
            else False
            else False
            else False
            else False
            else False
            else False))))))
      else (
       bif xnot (xbq true (xcm .eql en 0)) then (
        K .ret [.any, .any, .any, .slo 1 0 n1 0, .bool raw, .bool false, .slo 2 0 m 0, .any, .ptr 3 0, .ptr 6 0, .int .i64 ↑i] [some (.ro qx), some (.ro ax), some (.cells cs (some 2)), some (.cells [.ptr 4 0, .slo 5 off len k, .bool dt, .int .u64 sm] none), some (.cells [.int .i64 me, .int .i64 su, .int .i64 en, .int .i64 bu, .int .i64 er] none), some (.cells cs (some 2)), some (.cells [.int .i64 me, .int .i64 su, .int .i64 en, .int .i64 er, .int .i64 bu, .slo 7 0 m 0, .int .i64 at', .int .u64 sm] none), some (.cells cs (some 2)), some (.cells [.int .i64 6, .int .i64 0, .int .u64 0, .int .u64 0, .int .u64 0, .bool false, .int .i64 0, .int .u64 0, .bool false, .int .i64 0] none), some (.cells [.int .i64 6, .int .i64 0, .int .u64 0, .int .u64 0, .int .u64 0, .bool false, .int .i64 0, .int .u64 0, .bool false, .int .i64 0] none), some (.cells [.int .i64 6, .int .i64 0, .int .u64 0, .int .u64 0, .int .u64 0, .bool false, .int .i64 0, .int .u64 0, .bool false, .int .i64 0] none), some (.cells [.int .i64 6, .int .i64 0, .int .u64 0, .int .u64 0, .int .u64 0, .bool false, .int .i64 0, .int .u64 0, .bool false, .int .i64 0] none)] [])
       else (
        bif xcm .neq en en then (
         bif xcm .eql en en then
         bif xcm .eql en en then
         K .ret [.any, .any, .any, .slo 1 0 n1 0, .bool raw, .bool false, .slo 2 0 m 0, .any, .ptr 3 0, .ptr 6 0, .int .i64 ↑i] [some (.ro qx), some (.ro ax), some (.cells cs (some 2)), some (.cells [.ptr 4 0, .slo 5 off len k, .bool dt, .int .u64 sm] none), some (.cells [.int .i64 me, .int .i64 su, .int .i64 en, .int .i64 bu, .int .i64 er] none), some (.cells cs (some 2)), some (.cells [.int .i64 me, .int .i64 su, .int .i64 en, .int .i64 er, .int .i64 bu, .slo 7 0 m 0, .int .i64 at', .int .u64 sm] none), some (.cells cs (some 2)), some (.cells [.int .i64 6, .int .i64 0, .int .u64 0, .int .u64 0, .int .u64 0, .bool false, .int .i64 0, .int .u64 0, .bool false, .int .i64 0] none), some (.cells [.int .i64 6, .int .i64 0, .int .u64 0, .int .u64 0, .int .u64 0, .bool false, .int .i64 0, .int .u64 0, .bool false, .int .i64 0] none), some (.cells [.int .i64 6, .int .i64 0, .int .u64 0, .int .u64 0, .int .u64 0, .bool false, .int .i64 0, .int .u64 0, .bool false, .int .i64 0] none), some (.cells [.int .i64 6, .int .i64 0, .int .u64 0, .int .u64 0, .int .u64 0, .bool false, .int .i64 0, .int .u64 0, .bool false, .int .i64 0] none)] []
         else False
         else False)
        else (
         bif xcm .neq er er then (
          bif xcm .eql en en then
          bif xcm .eql en en then
          bif xcm .eql er er then
          bif xcm .eql er er then
          K .ret [.any, .any, .any, .slo 1 0 n1 0, .bool raw, .bool false, .slo 2 0 m 0, .any, .ptr 3 0, .ptr 6 0, .int .i64 ↑i] [some (.ro qx), some (.ro ax), some (.cells cs (some 2)), some (.cells [.ptr 4 0, .slo 5 off len k, .bool dt, .int .u64 sm] none), some (.cells [.int .i64 me, .int .i64 su, .int .i64 en, .int .i64 bu, .int .i64 er] none), some (.cells cs (some 2)), some (.cells [.int .i64 me, .int .i64 su, .int .i64 en, .int .i64 er, .int .i64 bu, .slo 7 0 m 0, .int .i64 at', .int .u64 sm] none), some (.cells cs (some 2)), some (.cells [.int .i64 6, .int .i64 0, .int .u64 0, .int .u64 0, .int .u64 0, .bool false, .int .i64 0, .int .u64 0, .bool false, .int .i64 0] none), some (.cells [.int .i64 6, .int .i64 0, .int .u64 0, .int .u64 0, .int .u64 0, .bool false, .int .i64 0, .int .u64 0, .bool false, .int .i64 0] none), some (.cells [.int .i64 6, .int .i64 0, .int .u64 0, .int .u64 0, .int .u64 0, .bool false, .int .i64 0, .int .u64 0, .bool false, .int .i64 0] none), some (.cells [.int .i64 6, .int .i64 0, .int .u64 0, .int .u64 0, .int .u64 0, .bool false, .int .i64 0, .int .u64 0, .bool false, .int .i64 0] none)] []
          else False
          else False
          else False
          else False)
         else (
          bif xcm .neq bu bu then (
           bif xcm .eql en en then
           bif xcm .eql en en then
           bif xcm .eql er er then
           bif xcm .eql er er then
           bif xcm .eql bu bu then
           bif xcm .eql bu bu then
           K .ret [.any, .any, .any, .slo 1 0 n1 0, .bool raw, .bool false, .slo 2 0 m 0, .any, .ptr 3 0, .ptr 6 0, .int .i64 ↑i] [some (.ro qx), some (.ro ax), some (.cells cs (some 2)), some (.cells [.ptr 4 0, .slo 5 off len k, .bool dt, .int .u64 sm] none), some (.cells [.int .i64 me, .int .i64 su, .int .i64 en, .int .i64 bu, .int .i64 er] none), some (.cells cs (some 2)), some (.cells [.int .i64 me, .int .i64 su, .int .i64 en, .int .i64 er, .int .i64 bu, .slo 7 0 m 0, .int .i64 at', .int .u64 sm] none), some (.cells cs (some 2)), some (.cells [.int .i64 6, .int .i64 0, .int .u64 0, .int .u64 0, .int .u64 0, .bool false, .int .i64 0, .int .u64 0, .bool false, .int .i64 0] none), some (.cells [.int .i64 6, .int .i64 0, .int .u64 0, .int .u64 0, .int .u64 0, .bool false, .int .i64 0, .int .u64 0, .bool false, .int .i64 0] none), some (.cells [.int .i64 6, .int .i64 0, .int .u64 0, .int .u64 0, .int .u64 0, .bool false, .int .i64 0, .int .u64 0, .bool false, .int .i64 0] none), some (.cells [.int .i64 6, .int .i64 0, .int .u64 0, .int .u64 0, .int .u64 0, .bool false, .int .i64 0, .int .u64 0, .bool false, .int .i64 0] none)] []
           else False
           else False
           else False
           else False
           else False
           else False)
          else (
           bif xcm .neq en 2 then (
            bif xcm .eql en en then
            bif xcm .eql en en then
            bif xcm .eql er er then
            bif xcm .eql er er then
            bif xcm .eql bu bu then
            bif xcm .eql bu bu then
            K .normal [.any, .any, .any, .slo 1 0 n1 0, .bool raw, .any, .slo 2 0 m 0, .any, .ptr 3 0, .ptr 6 0, .int .i64 ↑i] [some (.ro qx), some (.ro ax), some (.cells cs (some 2)), some (.cells [.ptr 4 0, .slo 5 off len k, .bool dt, .int .u64 sm] none), some (.cells [.int .i64 me, .int .i64 su, .int .i64 en, .int .i64 bu, .int .i64 er] none), some (.cells cs (some 2)), some (.cells [.int .i64 me, .int .i64 su, .int .i64 en, .int .i64 er, .int .i64 bu, .slo 7 0 m 0, .int .i64 at', .int .u64 sm] none), some (.cells cs (some 2)), some (.cells [.int .i64 6, .int .i64 0, .int .u64 0, .int .u64 0, .int .u64 0, .bool false, .int .i64 0, .int .u64 0, .bool false, .int .i64 0] none), some (.cells [.int .i64 6, .int .i64 0, .int .u64 0, .int .u64 0, .int .u64 0, .bool false, .int .i64 0, .int .u64 0, .bool false, .int .i64 0] none), some (.cells [.int .i64 6, .int .i64 0, .int .u64 0, .int .u64 0, .int .u64 0, .bool false, .int .i64 0, .int .u64 0, .bool false, .int .i64 0] none), some (.cells [.int .i64 6, .int .i64 0, .int .u64 0, .int .u64 0, .int .u64 0, .bool false, .int .i64 0, .int .u64 0, .bool false, .int .i64 0] none)] []
            else False
            else False
            else False
            else False
            else False
            else False)
           else (
            bif xcm .eql en en then
            bif xcm .eql en en then
            bif xcm .eql er er then
            bif xcm .eql er er then
            bif xcm .eql bu bu then
            bif xcm .eql bu bu then
            bif xcm .neq sm 0 then (
             K .ret [.any, .any, .any, .slo 1 0 n1 0, .bool raw, .bool false, .slo 2 0 m 0, .any, .ptr 3 0, .ptr 6 0, .int .i64 ↑i] [some (.ro qx), some (.ro ax), some (.cells cs (some 2)), some (.cells [.ptr 4 0, .slo 5 off len k, .bool dt, .int .u64 sm] none), some (.cells [.int .i64 me, .int .i64 su, .int .i64 en, .int .i64 bu, .int .i64 er] none), some (.cells cs (some 2)), some (.cells [.int .i64 me, .int .i64 su, .int .i64 en, .int .i64 er, .int .i64 bu, .slo 7 0 m 0, .int .i64 at', .int .u64 sm] none), some (.cells cs (some 2)), some (.cells [.int .i64 6, .int .i64 0, .int .u64 0, .int .u64 0, .int .u64 0, .bool false, .int .i64 0, .int .u64 0, .bool false, .int .i64 0] none), some (.cells [.int .i64 6, .int .i64 0, .int .u64 0, .int .u64 0, .int .u64 0, .bool false, .int .i64 0, .int .u64 0, .bool false, .int .i64 0] none), some (.cells [.int .i64 6, .int .i64 0, .int .u64 0, .int .u64 0, .int .u64 0, .bool false, .int .i64 0, .int .u64 0, .bool false, .int .i64 0] none), some (.cells [.int .i64 6, .int .i64 0, .int .u64 0, .int .u64 0, .int .u64 0, .bool false, .int .i64 0, .int .u64 0, .bool false, .int .i64 0] none)] [])
            else (
             K .normal [.any, .any, .any, .slo 1 0 n1 0, .bool raw, .any, .slo 2 0 m 0, .any, .ptr 3 0, .ptr 6 0, .int .i64 ↑i] [some (.ro qx), some (.ro ax), some (.cells cs (some 2)), some (.cells [.ptr 4 0, .slo 5 off len k, .bool dt, .int .u64 sm] none), some (.cells [.int .i64 me, .int .i64 su, .int .i64 en, .int .i64 bu, .int .i64 er] none), some (.cells cs (some 2)), some (.cells [.int .i64 me, .int .i64 su, .int .i64 en, .int .i64 er, .int .i64 bu, .slo 7 0 m 0, .int .i64 at', .int .u64 sm] none), some (.cells cs (some 2)), some (.cells [.int .i64 6, .int .i64 0, .int .u64 0, .int .u64 0, .int .u64 0, .bool false, .int .i64 0, .int .u64 0, .bool false, .int .i64 0] none), some (.cells [.int .i64 6, .int .i64 0, .int .u64 0, .int .u64 0, .int .u64 0, .bool false, .int .i64 0, .int .u64 0, .bool false, .int .i64 0] none), some (.cells [.int .i64 6, .int .i64 0, .int .u64 0, .int .u64 0, .int .u64 0, .bool false, .int .i64 0, .int .u64 0, .bool false, .int .i64 0] none), some (.cells [.int .i64 6, .int .i64 0, .int .u64 0, .int .u64 0, .int .u64 0, .bool false, .int .i64 0, .int .u64 0, .bool false, .int .i64 0] none)] [])
            else False
            else False
            else False
            else False
            else False
            else False)))))))
     else (
      bif xnn at' then
      bif xle (xadd (xnat at') 1) m then
      bif xle (xadd (xix 0 (xnat at') 2) 1) (xln cs) then
      bif isI .i64 (nthD cs (xix 0 (xnat at') 2)) then
      bif xcm .eql en 2 then (
       bif xnot (xbq true (xcm .eql en 0)) then (
        K .ret [.any, .any, .any, .slo 1 0 n1 0, .bool raw, .bool false, .slo 2 0 m 0, .any, .ptr 3 0, .ptr 6 0, .int .i64 ↑i] [some (.ro qx), some (.ro ax), some (.cells cs (some 2)), some (.cells [.ptr 4 0, .slo 5 off len k, .bool dt, .int .u64 sm] none), some (.cells [.int .i64 me, .int .i64 su, .int .i64 en, .int .i64 bu, .int .i64 er] none), some (.cells cs (some 2)), some (.cells [.int .i64 me, .int .i64 su, .int .i64 en, .int .i64 er, .int .i64 bu, .slo 7 0 m 0, .int .i64 at', .int .u64 sm] none), some (.cells cs (some 2)), some (.cells [.int .i64 6, .int .i64 0, .int .u64 0, .int .u64 0, .int .u64 0, .bool false, .int .i64 0, .int .u64 0, .bool false, .int .i64 0] none), some (.cells [.int .i64 6, .int .i64 0, .int .u64 0, .int .u64 0, .int .u64 0, .bool false, .int .i64 0, .int .u64 0, .bool false, .int .i64 0] none), some (.cells [.int .i64 3, .int .i64 (asI (nthD cs (xix 0 (xnat at') 2))), .int .u64 0, .int .u64 0, .int .u64 0, .bool false, .int .i64 0, .int .u64 0, .bool false, .int .i64 0] none), some (.cells [.int .i64 3, .int .i64 (asI (nthD cs (xix 0 (xnat at') 2))), .int .u64 0, .int .u64 0, .int .u64 0, .bool false, .int .i64 0, .int .u64 0, .bool false, .int .i64 0] none)] [])
       else (
        K .ret [.any, .any, .any, .slo 1 0 n1 0, .bool raw, .bool false, .slo 2 0 m 0, .any, .ptr 3 0, .ptr 6 0, .int .i64 ↑i] [some (.ro qx), some (.ro ax), some (.cells cs (some 2)), some (.cells [.ptr 4 0, .slo 5 off len k, .bool dt, .int .u64 sm] none), some (.cells [.int .i64 me, .int .i64 su, .int .i64 en, .int .i64 bu, .int .i64 er] none), some (.cells cs (some 2)), some (.cells [.int .i64 me, .int .i64 su, .int .i64 en, .int .i64 er, .int .i64 bu, .slo 7 0 m 0, .int .i64 at', .int .u64 sm] none), some (.cells cs (some 2)), some (.cells [.int .i64 6, .int .i64 0, .int .u64 0, .int .u64 0, .int .u64 0, .bool false, .int .i64 0, .int .u64 0, .bool false, .int .i64 0] none), some (.cells [.int .i64 6, .int .i64 0, .int .u64 0, .int .u64 0, .int .u64 0, .bool false, .int .i64 0, .int .u64 0, .bool false, .int .i64 0] none), some (.cells [.int .i64 3, .int .i64 (asI (nthD cs (xix 0 (xnat at') 2))), .int .u64 0, .int .u64 0, .int .u64 0, .bool false, .int .i64 0, .int .u64 0, .bool false, .int .i64 0] none), some (.cells [.int .i64 3, .int .i64 (asI (nthD cs (xix 0 (xnat at') 2))), .int .u64 0, .int .u64 0, .int .u64 0, .bool false, .int .i64 0, .int .u64 0, .bool false, .int .i64 0] none)] []))
      else (
       bif xnot (xbq true (xcm .eql en 0)) then (
        K .ret [.any, .any, .any, .slo 1 0 n1 0, .bool raw, .bool false, .slo 2 0 m 0, .any, .ptr 3 0, .ptr 6 0, .int .i64 ↑i] [some (.ro qx), some (.ro ax), some (.cells cs (some 2)), some (.cells [.ptr 4 0, .slo 5 off len k, .bool dt, .int .u64 sm] none), some (.cells [.int .i64 me, .int .i64 su, .int .i64 en, .int .i64 bu, .int .i64 er] none), some (.cells cs (some 2)), some (.cells [.int .i64 me, .int .i64 su, .int .i64 en, .int .i64 er, .int .i64 bu, .slo 7 0 m 0, .int .i64 at', .int .u64 sm] none), some (.cells cs (some 2)), some (.cells [.int .i64 6, .int .i64 0, .int .u64 0, .int .u64 0, .int .u64 0, .bool false, .int .i64 0, .int .u64 0, .bool false, .int .i64 0] none), some (.cells [.int .i64 6, .int .i64 0, .int .u64 0, .int .u64 0, .int .u64 0, .bool false, .int .i64 0, .int .u64 0, .bool false, .int .i64 0] none), some (.cells [.int .i64 3, .int .i64 (asI (nthD cs (xix 0 (xnat at') 2))), .int .u64 0, .int .u64 0, .int .u64 0, .bool false, .int .i64 0, .int .u64 0, .bool false, .int .i64 0] none), some (.cells [.int .i64 3, .int .i64 (asI (nthD cs (xix 0 (xnat at') 2))), .int .u64 0, .int .u64 0, .int .u64 0, .bool false, .int .i64 0, .int .u64 0, .bool false, .int .i64 0] none)] [])
       else (
        K .ret [.any, .any, .any, .slo 1 0 n1 0, .bool raw, .bool false, .slo 2 0 m 0, .any, .ptr 3 0, .ptr 6 0, .int .i64 ↑i] [some (.ro qx), some (.ro ax), some (.cells cs (some 2)), some (.cells [.ptr 4 0, .slo 5 off len k, .bool dt, .int .u64 sm] none), some (.cells [.int .i64 me, .int .i64 su, .int .i64 en, .int .i64 bu, .int .i64 er] none), some (.cells cs (some 2)), some (.cells [.int .i64 me, .int .i64 su, .int .i64 en, .int .i64 er, .int .i64 bu, .slo 7 0 m 0, .int .i64 at', .int .u64 sm] none), some (.cells cs (some 2)), some (.cells [.int .i64 6, .int .i64 0, .int .u64 0, .int .u64 0, .int .u64 0, .bool false, .int .i64 0, .int .u64 0, .bool false, .int .i64 0] none), some (.cells [.int .i64 6, .int .i64 0, .int .u64 0, .int .u64 0, .int .u64 0, .bool false, .int .i64 0, .int .u64 0, .bool false, .int .i64 0] none), some (.cells [.int .i64 3, .int .i64 (asI (nthD cs (xix 0 (xnat at') 2))), .int .u64 0, .int .u64 0, .int .u64 0, .bool false, .int .i64 0, .int .u64 0, .bool false, .int .i64 0] none), some (.cells [.int .i64 3, .int .i64 (asI (nthD cs (xix 0 (xnat at') 2))), .int .u64 0, .int .u64 0, .int .u64 0, .bool false, .int .i64 0, .int .u64 0, .bool false, .int .i64 0] none)] []))
      else False
      else False
      else False
      else False))
    else (
     bif xcm .eql en 2 then (
      bif xnot (xbq true (xcm .eql en 0)) then (
       K .ret [.any, .any, .any, .slo 1 0 n1 0, .bool raw, .bool false, .slo 2 0 m 0, .any, .ptr 3 0, .ptr 6 0, .int .i64 ↑i] [some (.ro qx), some (.ro ax), some (.cells cs (some 2)), some (.cells [.ptr 4 0, .slo 5 off len k, .bool dt, .int .u64 sm] none), some (.cells [.int .i64 me, .int .i64 su, .int .i64 en, .int .i64 bu, .int .i64 er] none), some (.cells cs (some 2)), some (.cells [.int .i64 me, .int .i64 su, .int .i64 en, .int .i64 er, .int .i64 bu, .slo 7 0 m 0, .int .i64 at', .int .u64 sm] none), some (.cells cs (some 2)), some (.cells [.int .i64 6, .int .i64 0, .int .u64 0, .int .u64 0, .int .u64 0, .bool false, .int .i64 0, .int .u64 0, .bool false, .int .i64 0] none), some (.cells [.int .i64 6, .int .i64 0, .int .u64 0, .int .u64 0, .int .u64 0, .bool false, .int .i64 0, .int .u64 0, .bool false, .int .i64 0] none), some (.cells [.int .i64 0, .int .i64 0, .int .u64 0, .int .u64 0, .int .u64 0, .bool false, .int .i64 0, .int .u64 0, .bool false, .int .i64 0] none)] [])
      else (
       K .ret [.any, .any, .any, .slo 1 0 n1 0, .bool raw, .bool false, .slo 2 0 m 0, .any, .ptr 3 0, .ptr 6 0, .int .i64 ↑i] [some (.ro qx), some (.ro ax), some (.cells cs (some 2)), some (.cells [.ptr 4 0, .slo 5 off len k, .bool dt, .int .u64 sm] none), some (.cells [.int .i64 me, .int .i64 su, .int .i64 en, .int .i64 bu, .int .i64 er] none), some (.cells cs (some 2)), some (.cells [.int .i64 me, .int .i64 su, .int .i64 en, .int .i64 er, .int .i64 bu, .slo 7 0 m 0, .int .i64 at', .int .u64 sm] none), some (.cells cs (some 2)), some (.cells [.int .i64 6, .int .i64 0, .int .u64 0, .int .u64 0, .int .u64 0, .bool false, .int .i64 0, .int .u64 0, .bool false, .int .i64 0] none), some (.cells [.int .i64 6, .int .i64 0, .int .u64 0, .int .u64 0, .int .u64 0, .bool false, .int .i64 0, .int .u64 0, .bool false, .int .i64 0] none), some (.cells [.int .i64 0, .int .i64 0, .int .u64 0, .int .u64 0, .int .u64 0, .bool false, .int .i64 0, .int .u64 0, .bool false, .int .i64 0] none)] []))
     else (
      bif xnot (xbq true (xcm .eql en 0)) then (
       K .ret [.any, .any, .any, .slo 1 0 n1 0, .bool raw, .bool false, .slo 2 0 m 0, .any, .ptr 3 0, .ptr 6 0, .int .i64 ↑i] [some (.ro qx), some (.ro ax), some (.cells cs (some 2)), some (.cells [.ptr 4 0, .slo 5 off len k, .bool dt, .int .u64 sm] none), some (.cells [.int .i64 me, .int .i64 su, .int .i64 en, .int .i64 bu, .int .i64 er] none), some (.cells cs (some 2)), some (.cells [.int .i64 me, .int .i64 su, .int .i64 en, .int .i64 er, .int .i64 bu, .slo 7 0 m 0, .int .i64 at', .int .u64 sm] none), some (.cells cs (some 2)), some (.cells [.int .i64 6, .int .i64 0, .int .u64 0, .int .u64 0, .int .u64 0, .bool false, .int .i64 0, .int .u64 0, .bool false, .int .i64 0] none), some (.cells [.int .i64 6, .int .i64 0, .int .u64 0, .int .u64 0, .int .u64 0, .bool false, .int .i64 0, .int .u64 0, .bool false, .int .i64 0] none), some (.cells [.int .i64 0, .int .i64 0, .int .u64 0, .int .u64 0, .int .u64 0, .bool false, .int .i64 0, .int .u64 0, .bool false, .int .i64 0] none)] [])
      else (
       K .ret [.any, .any, .any, .slo 1 0 n1 0, .bool raw, .bool false, .slo 2 0 m 0, .any, .ptr 3 0, .ptr 6 0, .int .i64 ↑i] [some (.ro qx), some (.ro ax), some (.cells cs (some 2)), some (.cells [.ptr 4 0, .slo 5 off len k, .bool dt, .int .u64 sm] none), some (.cells [.int .i64 me, .int .i64 su, .int .i64 en, .int .i64 bu, .int .i64 er] none), some (.cells cs (some 2)), some (.cells [.int .i64 me, .int .i64 su, .int .i64 en, .int .i64 er, .int .i64 bu, .slo 7 0 m 0, .int .i64 at', .int .u64 sm] none), some (.cells cs (some 2)), some (.cells [.int .i64 6, .int .i64 0, .int .u64 0, .int .u64 0, .int .u64 0, .bool false, .int .i64 0, .int .u64 0, .bool false, .int .i64 0] none), some (.cells [.int .i64 6, .int .i64 0, .int .u64 0, .int .u64 0, .int .u64 0, .bool false, .int .i64 0, .int .u64 0, .bool false, .int .i64 0] none), some (.cells [.int .i64 0, .int .i64 0, .int .u64 0, .int .u64 0, .int .u64 0, .bool false, .int .i64 0, .int .u64 0, .bool false, .int .i64 0] none)] []))))
   else (
    bif xle 1 len then
    bif xle (xadd (xix off 0 2) 1) (xln cs) then
    bif isI .i64 (nthD cs (xix off 0 2)) then
    bif xcm .eql en 0 then (
     bif xcm .lss at' 0 then (
      bif xcm .eql en 2 then (
       bif xnot (xbq true (xcm .eql en 0)) then (
        K .ret [.any, .any, .any, .slo 1 0 n1 0, .bool raw, .bool false, .slo 2 0 m 0, .any, .ptr 3 0, .ptr 6 0, .int .i64 ↑i] [some (.ro qx), some (.ro ax), some (.cells cs (some 2)), some (.cells [.ptr 4 0, .slo 5 off len k, .bool dt, .int .u64 sm] none), some (.cells [.int .i64 me, .int .i64 su, .int .i64 en, .int .i64 bu, .int .i64 er] none), some (.cells cs (some 2)), some (.cells [.int .i64 me, .int .i64 su, .int .i64 en, .int .i64 er, .int .i64 bu, .slo 7 0 m 0, .int .i64 at', .int .u64 sm] none), some (.cells cs (some 2)), some (.cells [.int .i64 3, .int .i64 (asI (nthD cs (xix off 0 2))), .int .u64 0, .int .u64 0, .int .u64 0, .bool false, .int .i64 0, .int .u64 0, .bool false, .int .i64 0] none), some (.cells [.int .i64 3, .int .i64 (asI (nthD cs (xix off 0 2))), .int .u64 0, .int .u64 0, .int .u64 0, .bool false, .int .i64 0, .int .u64 0, .bool false, .int .i64 0] none), some (.cells [.int .i64 6, .int .i64 0, .int .u64 0, .int .u64 0, .int .u64 0, .bool false, .int .i64 0, .int .u64 0, .bool false, .int .i64 0] none), some (.cells [.int .i64 6, .int .i64 0, .int .u64 0, .int .u64 0, .int .u64 0, .bool false, .int .i64 0, .int .u64 0, .bool false, .int .i64 0] none)] [])
       else (
        K .ret [.any, .any, .any, .slo 1 0 n1 0, .bool raw, .bool false, .slo 2 0 m 0, .any, .ptr 3 0, .ptr 6 0, .int .i64 ↑i] [some (.ro qx), some (.ro ax), some (.cells cs (some 2)), some (.cells [.ptr 4 0, .slo 5 off len k, .bool dt, .int .u64 sm] none), some (.cells [.int .i64 me, .int .i64 su, .int .i64 en, .int .i64 bu, .int .i64 er] none), some (.cells cs (some 2)), some (.cells [.int .i64 me, .int .i64 su, .int .i64 en, .int .i64 er, .int .i64 bu, .slo 7 0 m 0, .int .i64 at', .int .u64 sm] none), some (.cells cs (some 2)), some (.cells [.int .i64 3, .int .i64 (asI (nthD cs (xix off 0 2))), .int .u64 0, .int .u64 0, .int .u64 0, .bool false, .int .i64 0, .int .u64 0, .bool false, .int .i64 0] none), some (.cells [.int .i64 3, .int .i64 (asI (nthD cs (xix off 0 2))), .int .u64 0, .int .u64 0, .int .u64 0, .bool false, .int .i64 0, .int .u64 0, .bool false, .int .i64 0] none), some (.cells [.int .i64 6, .int .i64 0, .int .u64 0, .int .u64 0, .int .u64 0, .bool false, .int .i64 0, .int .u64 0, .bool false, .int .i64 0] none), some (.cells [.int .i64 6, .int .i64 0, .int .u64 0, .int .u64 0, .int .u64 0, .bool false, .int .i64 0, .int .u64 0, .bool false, .int .i64 0] none)] []))
      else (
       bif xnot (xbq true (xcm .eql en 0)) then (
        K .ret [.any, .any, .any, .slo 1 0 n1 0, .bool raw, .bool false, .slo 2 0 m 0, .any, .ptr 3 0, .ptr 6 0, .int .i64 ↑i] [some (.ro qx), some (.ro ax), some (.cells cs (some 2)), some (.cells [.ptr 4 0, .slo 5 off len k, .bool dt, .int .u64 sm] none), some (.cells [.int .i64 me, .int .i64 su, .int .i64 en, .int .i64 bu, .int .i64 er] none), some (.cells cs (some 2)), some (.cells [.int .i64 me, .int .i64 su, .int .i64 en, .int .i64 er, .int .i64 bu, .slo 7 0 m 0, .int .i64 at', .int .u64 sm] none), some (.cells cs (some 2)), some (.cells [.int .i64 3, .int .i64 (asI (nthD cs (xix off 0 2))), .int .u64 0, .int .u64 0, .int .u64 0, .bool false, .int .i64 0, .int .u64 0, .bool false, .int .i64 0] none), some (.cells [.int .i64 3, .int .i64 (asI (nthD cs (xix off 0 2))), .int .u64 0, .int .u64 0, .int .u64 0, .bool false, .int .i64 0, .int .u64 0, .bool false, .int .i64 0] none), some (.cells [.int .i64 6, .int .i64 0, .int .u64 0, .int .u64 0, .int .u64 0, .bool false, .int .i64 0, .int .u64 0, .bool false, .int .i64 0] none), some (.cells [.int .i64 6, .int .i64 0, .int .u64 0, .int .u64 0, .int .u64 0, .bool false, .int .i64 0, .int .u64 0, .bool false, .int .i64 0] none)] [])
       else (
        K .ret [.any, .any, .any, .slo 1 0 n1 0, .bool raw, .bool false, .slo 2 0 m 0, .any, .ptr 3 0, .ptr 6 0, .int .i64 ↑i] [some (.ro qx), some (.ro ax), some (.cells cs (some 2)), some (.cells [.ptr 4 0, .slo 5 off len k, .bool dt, .int .u64 sm] none), some (.cells [.int .i64 me, .int .i64 su, .int .i64 en, .int .i64 bu, .int .i64 er] none), some (.cells cs (some 2)), some (.cells [.int .i64 me, .int .i64 su, .int .i64 en, .int .i64 er, .int .i64 bu, .slo 7 0 m 0, .int .i64 at', .int .u64 sm] none), some (.cells cs (some 2)), some (.cells [.int .i64 3, .int .i64 (asI (nthD cs (xix off 0 2))), .int .u64 0, .int .u64 0, .int .u64 0, .bool false, .int .i64 0, .int .u64 0, .bool false, .int .i64 0] none), some (.cells [.int .i64 3, .int .i64 (asI (nthD cs (xix off 0 2))), .int .u64 0, .int .u64 0, .int .u64 0, .bool false, .int .i64 0, .int .u64 0, .bool false, .int .i64 0] none), some (.cells [.int .i64 6, .int .i64 0, .int .u64 0, .int .u64 0, .int .u64 0, .bool false, .int .i64 0, .int .u64 0, .bool false, .int .i64 0] none), some (.cells [.int .i64 6, .int .i64 0, .int .u64 0, .int .u64 0, .int .u64 0, .bool false, .int .i64 0, .int .u64 0, .bool false, .int .i64 0] none)] [])))
     else (
      bif xnn at' then
      bif xle (xadd (xnat at') 1) m then
      bif xle (xadd (xix 0 (xnat at') 2) 1) (xln cs) then
      bif isI .i64 (nthD cs (xix 0 (xnat at') 2)) then
      bif xcm .eql en 2 then (
       bif xnot (xbq true (xcm .eql en 0)) then (
        K .ret [.any, .any, .any, .slo 1 0 n1 0, .bool raw, .bool false, .slo 2 0 m 0, .any, .ptr 3 0, .ptr 6 0, .int .i64 ↑i] [some (.ro qx), some (.ro ax), some (.cells cs (some 2)), some (.cells [.ptr 4 0, .slo 5 off len k, .bool dt, .int .u64 sm] none), some (.cells [.int .i64 me, .int .i64 su, .int .i64 en, .int .i64 bu, .int .i64 er] none), some (.cells cs (some 2)), some (.cells [.int .i64 me, .int .i64 su, .int .i64 en, .int .i64 er, .int .i64 bu, .slo 7 0 m 0, .int .i64 at', .int .u64 sm] none), some (.cells cs (some 2)), some (.cells [.int .i64 3, .int .i64 (asI (nthD cs (xix off 0 2))), .int .u64 0, .int .u64 0, .int .u64 0, .bool false, .int .i64 0, .int .u64 0, .bool false, .int .i64 0] none), some (.cells [.int .i64 3, .int .i64 (asI (nthD cs (xix off 0 2))), .int .u64 0, .int .u64 0, .int .u64 0, .bool false, .int .i64 0, .int .u64 0, .bool false, .int .i64 0] none), some (.cells [.int .i64 3, .int .i64 (asI (nthD cs (xix 0 (xnat at') 2))), .int .u64 0, .int .u64 0, .int .u64 0, .bool false, .int .i64 0, .int .u64 0, .bool false, .int .i64 0] none), some (.cells [.int .i64 3, .int .i64 (asI (nthD cs (xix 0 (xnat at') 2))), .int .u64 0, .int .u64 0, .int .u64 0, .bool false, .int .i64 0, .int .u64 0, .bool false, .int .i64 0] none)] [])
       else (
        bif xnot (xand true (xand (xcm .eql (asI (nthD cs (xix off 0 2))) (asI (nthD cs (xix 0 (xnat at') 2)))) true)) then (
         K .ret [.any, .any, .any, .slo 1 0 n1 0, .bool raw, .bool false, .slo 2 0 m 0, .any, .ptr 3 0, .ptr 6 0, .int .i64 ↑i] [some (.ro qx), some (.ro ax), some (.cells cs (some 2)), some (.cells [.ptr 4 0, .slo 5 off len k, .bool dt, .int .u64 sm] none), some (.cells [.int .i64 me, .int .i64 su, .int .i64 en, .int .i64 bu, .int .i64 er] none), some (.cells cs (some 2)), some (.cells [.int .i64 me, .int .i64 su, .int .i64 en, .int .i64 er, .int .i64 bu, .slo 7 0 m 0, .int .i64 at', .int .u64 sm] none), some (.cells cs (some 2)), some (.cells [.int .i64 3, .int .i64 (asI (nthD cs (xix off 0 2))), .int .u64 0, .int .u64 0, .int .u64 0, .bool false, .int .i64 0, .int .u64 0, .bool false, .int .i64 0] none), some (.cells [.int .i64 3, .int .i64 (asI (nthD cs (xix off 0 2))), .int .u64 0, .int .u64 0, .int .u64 0, .bool false, .int .i64 0, .int .u64 0, .bool false, .int .i64 0] none), some (.cells [.int .i64 3, .int .i64 (asI (nthD cs (xix 0 (xnat at') 2))), .int .u64 0, .int .u64 0, .int .u64 0, .bool false, .int .i64 0, .int .u64 0, .bool false, .int .i64 0] none), some (.cells [.int .i64 3, .int .i64 (asI (nthD cs (xix 0 (xnat at') 2))), .int .u64 0, .int .u64 0, .int .u64 0, .bool false, .int .i64 0, .int .u64 0, .bool false, .int .i64 0] none)] [])
        else (
         bif xcm .neq en en then (
          bif xcm .eql en en then
          bif xcm .eql en en then
          K .ret [.any, .any, .any, .slo 1 0 n1 0, .bool raw, .bool false, .slo 2 0 m 0, .any, .ptr 3 0, .ptr 6 0, .int .i64 ↑i] [some (.ro qx), some (.ro ax), some (.cells cs (some 2)), some (.cells [.ptr 4 0, .slo 5 off len k, .bool dt, .int .u64 sm] none), some (.cells [.int .i64 me, .int .i64 su, .int .i64 en, .int .i64 bu, .int .i64 er] none), some (.cells cs (some 2)), some (.cells [.int .i64 me, .int .i64 su, .int .i64 en, .int .i64 er, .int .i64 bu, .slo 7 0 m 0, .int .i64 at', .int .u64 sm] none), some (.cells cs (some 2)), some (.cells [.int .i64 3, .int .i64 (asI (nthD cs (xix off 0 2))), .int .u64 0, .int .u64 0, .int .u64 0, .bool false, .int .i64 0, .int .u64 0, .bool false, .int .i64 0] none), some (.cells [.int .i64 3, .int .i64 (asI (nthD cs (xix off 0 2))), .int .u64 0, .int .u64 0, .int .u64 0, .bool false, .int .i64 0, .int .u64 0, .bool false, .int .i64 0] none), some (.cells [.int .i64 3, .int .i64 (asI (nthD cs (xix 0 (xnat at') 2))), .int .u64 0, .int .u64 0, .int .u64 0, .bool false, .int .i64 0, .int .u64 0, .bool false, .int .i64 0] none), some (.cells [.int .i64 3, .int .i64 (asI (nthD cs (xix 0 (xnat at') 2))), .int .u64 0, .int .u64 0, .int .u64 0, .bool false, .int .i64 0, .int .u64 0, .bool false, .int .i64 0] none)] []
          else False
          else False)
         else (
          bif xcm .neq er er then (
           bif xcm .eql en en then
           bif xcm .eql en en then
           bif xcm .eql er er then
           bif xcm .eql er er then
           K .ret [.any, .any, .any, .slo 1 0 n1 0, .bool raw, .bool false, .slo 2 0 m 0, .any, .ptr 3 0, .ptr 6 0, .int .i64 ↑i] [some (.ro qx), some (.ro ax), some (.cells cs (some 2)), some (.cells [.ptr 4 0, .slo 5 off len k, .bool dt, .int .u64 sm] none), some (.cells [.int .i64 me, .int .i64 su, .int .i64 en, .int .i64 bu, .int .i64 er] none), some (.cells cs (some 2)), some (.cells [.int .i64 me, .int .i64 su, .int .i64 en, .int .i64 er, .int .i64 bu, .slo 7 0 m 0, .int .i64 at', .int .u64 sm] none), some (.cells cs (some 2)), some (.cells [.int .i64 3, .int .i64 (asI (nthD cs (xix off 0 2))), .int .u64 0, .int .u64 0, .int .u64 0, .bool false, .int .i64 0, .int .u64 0, .bool false, .int .i64 0] none), some (.cells [.int .i64 3, .int .i64 (asI (nthD cs (xix off 0 2))), .int .u64 0, .int .u64 0, .int .u64 0, .bool false, .int .i64 0, .int .u64 0, .bool false, .int .i64 0] none), some (.cells [.int .i64 3, .int .i64 (asI (nthD cs (xix 0 (xnat at') 2))), .int .u64 0, .int .u64 0, .int .u64 0, .bool false, .int .i64 0, .int .u64 0, .bool false, .int .i64 0] none), some (.cells [.int .i64 3, .int .i64 (asI (nthD cs (xix 0 (xnat at') 2))), .int .u64 0, .int .u64 0, .int .u64 0, .bool false, .int .i64 0, .int .u64 0, .bool false, .int .i64 0] none)] []
           else False
           else False
           else False
           else False)
          else (
           bif xcm .neq bu bu then (
            bif xcm .eql en en then
            bif xcm .eql en en then
            bif xcm .eql er er then
            bif xcm .eql er er then
            bif xcm .eql bu bu then
            bif xcm .eql bu bu then
            K .ret [.any, .any, .any, .slo 1 0 n1 0, .bool raw, .bool false, .slo 2 0 m 0, .any, .ptr 3 0, .ptr 6 0, .int .i64 ↑i] [some (.ro qx), some (.ro ax), some (.cells cs (some 2)), some (.cells [.ptr 4 0, .slo 5 off len k, .bool dt, .int .u64 sm] none), some (.cells [.int .i64 me, .int .i64 su, .int .i64 en, .int .i64 bu, .int .i64 er] none), some (.cells cs (some 2)), some (.cells [.int .i64 me, .int .i64 su, .int .i64 en, .int .i64 er, .int .i64 bu, .slo 7 0 m 0, .int .i64 at', .int .u64 sm] none), some (.cells cs (some 2)), some (.cells [.int .i64 3, .int .i64 (asI (nthD cs (xix off 0 2))), .int .u64 0, .int .u64 0, .int .u64 0, .bool false, .int .i64 0, .int .u64 0, .bool false, .int .i64 0] none), some (.cells [.int .i64 3, .int .i64 (asI (nthD cs (xix off 0 2))), .int .u64 0, .int .u64 0, .int .u64 0, .bool false, .int .i64 0, .int .u64 0, .bool false, .int .i64 0] none), some (.cells [.int .i64 3, .int .i64 (asI (nthD cs (xix 0 (xnat at') 2))), .int .u64 0, .int .u64 0, .int .u64 0, .bool false, .int .i64 0, .int .u64 0, .bool false, .int .i64 0] none), some (.cells [.int .i64 3, .int .i64 (asI (nthD cs (xix 0 (xnat at') 2))), .int .u64 0, .int .u64 0, .int .u64 0, .bool false, .int .i64 0, .int .u64 0, .bool false, .int .i64 0] none)] []
            else False
            else False
            else False
            else False
            else False
            else False)
           else (
            bif xcm .neq en 2 then (
             bif xcm .eql en en then
             bif xcm .eql en en then
             bif xcm .eql er er then
             bif xcm .eql er er then
             bif xcm .eql bu bu then
             bif xcm .eql bu bu then
             bif xcm .neq 0 sm then (
              K .ret [.any, .any, .any, .slo 1 0 n1 0, .bool raw, .bool false, .slo 2 0 m 0, .any, .ptr 3 0, .ptr 6 0, .int .i64 ↑i] [some (.ro qx), some (.ro ax), some (.cells cs (some 2)), some (.cells [.ptr 4 0, .slo 5 off len k, .bool dt, .int .u64 sm] none), some (.cells [.int .i64 me, .int .i64 su, .int .i64 en, .int .i64 bu, .int .i64 er] none), some (.cells cs (some 2)), some (.cells [.int .i64 me, .int .i64 su, .int .i64 en, .int .i64 er, .int .i64 bu, .slo 7 0 m 0, .int .i64 at', .int .u64 sm] none), some (.cells cs (some 2)), some (.cells [.int .i64 3, .int .i64 (asI (nthD cs (xix off 0 2))), .int .u64 0, .int .u64 0, .int .u64 0, .bool false, .int .i64 0, .int .u64 0, .bool false, .int .i64 0] none), some (.cells [.int .i64 3, .int .i64 (asI (nthD cs (xix off 0 2))), .int .u64 0, .int .u64 0, .int .u64 0, .bool false, .int .i64 0, .int .u64 0, .bool false, .int .i64 0] none), some (.cells [.int .i64 3, .int .i64 (asI (nthD cs (xix 0 (xnat at') 2))), .int .u64 0, .int .u64 0, .int .u64 0, .bool false, .int .i64 0, .int .u64 0, .bool false, .int .i64 0] none), some (.cells [.int .i64 3, .int .i64 (asI (nthD cs (xix 0 (xnat at') 2))), .int .u64 0, .int .u64 0, .int .u64 0, .bool false, .int .i64 0, .int .u64 0, .bool false, .int .i64 0] none)] [])
             else (
              K .normal [.any, .any, .any, .slo 1 0 n1 0, .bool raw, .any, .slo 2 0 m 0, .any, .ptr 3 0, .ptr 6 0, .int .i64 ↑i] [some (.ro qx), some (.ro ax), some (.cells cs (some 2)), some (.cells [.ptr 4 0, .slo 5 off len k, .bool dt, .int .u64 sm] none), some (.cells [.int .i64 me, .int .i64 su, .int .i64 en, .int .i64 bu, .int .i64 er] none), some (.cells cs (some 2)), some (.cells [.int .i64 me, .int .i64 su, .int .i64 en, .int .i64 er, .int .i64 bu, .slo 7 0 m 0, .int .i64 at', .int .u64 sm] none), some (.cells cs (some 2)), some (.cells [.int .i64 3, .int .i64 (asI (nthD cs (xix off 0 2))), .int .u64 0, .int .u64 0, .int .u64 0, .bool false, .int .i64 0, .int .u64 0, .bool false, .int .i64 0] none), some (.cells [.int .i64 3, .int .i64 (asI (nthD cs (xix off 0 2))), .int .u64 0, .int .u64 0, .int .u64 0, .bool false, .int .i64 0, .int .u64 0, .bool false, .int .i64 0] none), some (.cells [.int .i64 3, .int .i64 (asI (nthD cs (xix 0 (xnat at') 2))), .int .u64 0, .int .u64 0, .int .u64 0, .bool false, .int .i64 0, .int .u64 0, .bool false, .int .i64 0] none), some (.cells [.int .i64 3, .int .i64 (asI (nthD cs (xix 0 (xnat at') 2))), .int .u64 0, .int .u64 0, .int .u64 0, .bool false, .int .i64 0, .int .u64 0, .bool false, .int .i64 0] none)] [])
             else False
             else False
             else False
             else False
             else False
             else False)
            else (
             bif xcm .eql en en then
             bif xcm .eql en en then
             bif xcm .eql er er then
             bif xcm .eql er er then
             bif xcm .eql bu bu then
             bif xcm .eql bu bu then
             bif xcm .neq sm sm then (
              K .ret [.any, .any, .any, .slo 1 0 n1 0, .bool raw, .bool false, .slo 2 0 m 0, .any, .ptr 3 0, .ptr 6 0, .int .i64 ↑i] [some (.ro qx), some (.ro ax), some (.cells cs (some 2)), some (.cells [.ptr 4 0, .slo 5 off len k, .bool dt, .int .u64 sm] none), some (.cells [.int .i64 me, .int .i64 su, .int .i64 en, .int .i64 bu, .int .i64 er] none), some (.cells cs (some 2)), some (.cells [.int .i64 me, .int .i64 su, .int .i64 en, .int .i64 er, .int .i64 bu, .slo 7 0 m 0, .int .i64 at', .int .u64 sm] none), some (.cells cs (some 2)), some (.cells [.int .i64 3, .int .i64 (asI (nthD cs (xix off 0 2))), .int .u64 0, .int .u64 0, .int .u64 0, .bool false, .int .i64 0, .int .u64 0, .bool false, .int .i64 0] none), some (.cells [.int .i64 3, .int .i64 (asI (nthD cs (xix off 0 2))), .int .u64 0, .int .u64 0, .int .u64 0, .bool false, .int .i64 0, .int .u64 0, .bool false, .int .i64 0] none), some (.cells [.int .i64 3, .int .i64 (asI (nthD cs (xix 0 (xnat at') 2))), .int .u64 0, .int .u64 0, .int .u64 0, .bool false, .int .i64 0, .int .u64 0, .bool false, .int .i64 0] none), some (.cells [.int .i64 3, .int .i64 (asI (nthD cs (xix 0 (xnat at') 2))), .int .u64 0, .int .u64 0, .int .u64 0, .bool false, .int .i64 0, .int .u64 0, .bool false, .int .i64 0] none)] [])
             else (
              K .normal [.any, .any, .any, .slo 1 0 n1 0, .bool raw, .any, .slo 2 0 m 0, .any, .ptr 3 0, .ptr 6 0, .int .i64 ↑i] [some (.ro qx), some (.ro ax), some (.cells cs (some 2)), some (.cells [.ptr 4 0, .slo 5 off len k, .bool dt, .int .u64 sm] none), some (.cells [.int .i64 me, .int .i64 su, .int .i64 en, .int .i64 bu, .int .i64 er] none), some (.cells cs (some 2)), some (.cells [.int .i64 me, .int .i64 su, .int .i64 en, .int .i64 er, .int .i64 bu, .slo 7 0 m 0, .int .i64 at', .int .u64 sm] none), some (.cells cs (some 2)), some (.cells [.int .i64 3, .int .i64 (asI (nthD cs (xix off 0 2))), .int .u64 0, .int .u64 0, .int .u64 0, .bool false, .int .i64 0, .int .u64 0, .bool false, .int .i64 0] none), some (.cells [.int .i64 3, .int .i64 (asI (nthD cs (xix off 0 2))), .int .u64 0, .int .u64 0, .int .u64 0, .bool false, .int .i64 0, .int .u64 0, .bool false, .int .i64 0] none), some (.cells [.int .i64 3, .int .i64 (asI (nthD cs (xix 0 (xnat at') 2))), .int .u64 0, .int .u64 0, .int .u64 0, .bool false, .int .i64 0, .int .u64 0, .bool false, .int .i64 0] none), some (.cells [.int .i64 3, .int .i64 (asI (nthD cs (xix 0 (xnat at') 2))), .int .u64 0, .int .u64 0, .int .u64 0, .bool false, .int .i64 0, .int .u64 0, .bool false, .int .i64 0] none)] [])
             else False
             else False
             else False
             else False
             else False
             else False)))))))
      else (
       bif xnot (xbq true (xcm .eql en 0)) then (
        K .ret [.any, .any, .any, .slo 1 0 n1 0, .bool raw, .bool false, .slo 2 0 m 0, .any, .ptr 3 0, .ptr 6 0, .int .i64 ↑i] [some (.ro qx), some (.ro ax), some (.cells cs (some 2)), some (.cells [.ptr 4 0, .slo 5 off len k, .bool dt, .int .u64 sm] none), some (.cells [.int .i64 me, .int .i64 su, .int .i64 en, .int .i64 bu, .int .i64 er] none), some (.cells cs (some 2)), some (.cells [.int .i64 me, .int .i64 su, .int .i64 en, .int .i64 er, .int .i64 bu, .slo 7 0 m 0, .int .i64 at', .int .u64 sm] none), some (.cells cs (some 2)), some (.cells [.int .i64 3, .int .i64 (asI (nthD cs (xix off 0 2))), .int .u64 0, .int .u64 0, .int .u64 0, .bool false, .int .i64 0, .int .u64 0, .bool false, .int .i64 0] none), some (.cells [.int .i64 3, .int .i64 (asI (nthD cs (xix off 0 2))), .int .u64 0, .int .u64 0, .int .u64 0, .bool false, .int .i64 0, .int .u64 0, .bool false, .int .i64 0] none), some (.cells [.int .i64 3, .int .i64 (asI (nthD cs (xix 0 (xnat at') 2))), .int .u64 0, .int .u64 0, .int .u64 0, .bool false, .int .i64 0, .int .u64 0, .bool false, .int .i64 0] none), some (.cells [.int .i64 3, .int .i64 (asI (nthD cs (xix 0 (xnat at') 2))), .int .u64 0, .int .u64 0, .int .u64 0, .bool false, .int .i64 0, .int .u64 0, .bool false, .int .i64 0] none)] [])
       else (
        bif xnot (xand true (xand (xcm .eql (asI (nthD cs (xix off 0 2))) (asI (nthD cs (xix 0 (xnat at') 2)))) true)) then (
         K .ret [.any, .any, .any, .slo 1 0 n1 0, .bool raw, .bool false, .slo 2 0 m 0, .any, .ptr 3 0, .ptr 6 0, .int .i64 ↑i] [some (.ro qx), some (.ro ax), some (.cells cs (some 2)), some (.cells [.ptr 4 0, .slo 5 off len k, .bool dt, .int .u64 sm] none), some (.cells [.int .i64 me, .int .i64 su, .int .i64 en, .int .i64 bu, .int .i64 er] none), some (.cells cs (some 2)), some (.cells [.int .i64 me, .int .i64 su, .int .i64 en, .int .i64 er, .int .i64 bu, .slo 7 0 m 0, .int .i64 at', .int .u64 sm] none), some (.cells cs (some 2)), some (.cells [.int .i64 3, .int .i64 (asI (nthD cs (xix off 0 2))), .int .u64 0, .int .u64 0, .int .u64 0, .bool false, .int .i64 0, .int .u64 0, .bool false, .int .i64 0] none), some (.cells [.int .i64 3, .int .i64 (asI (nthD cs (xix off 0 2))), .int .u64 0, .int .u64 0, .int .u64 0, .bool false, .int .i64 0, .int .u64 0, .bool false, .int .i64 0] none), some (.cells [.int .i64 3, .int .i64 (asI (nthD cs (xix 0 (xnat at') 2))), .int .u64 0, .int .u64 0, .int .u64 0, .bool false, .int .i64 0, .int .u64 0, .bool false, .int .i64 0] none), some (.cells [.int .i64 3, .int .i64 (asI (nthD cs (xix 0 (xnat at') 2))), .int .u64 0, .int .u64 0, .int .u64 0, .bool false, .int .i64 0, .int .u64 0, .bool false, .int .i64 0] none)] [])
        else (
         bif xcm .neq en en then (
          bif xcm .eql en en then
          bif xcm .eql en en then
          K .ret [.any, .any, .any, .slo 1 0 n1 0, .bool raw, .bool false, .slo 2 0 m 0, .any, .ptr 3 0, .ptr 6 0, .int .i64 ↑i] [some (.ro qx), some (.ro ax), some (.cells cs (some 2)), some (.cells [.ptr 4 0, .slo 5 off len k, .bool dt, .int .u64 sm] none), some (.cells [.int .i64 me, .int .i64 su, .int .i64 en, .int .i64 bu, .int .i64 er] none), some (.cells cs (some 2)), some (.cells [.int .i64 me, .int .i64 su, .int .i64 en, .int .i64 er, .int .i64 bu, .slo 7 0 m 0, .int .i64 at', .int .u64 sm] none), some (.cells cs (some 2)), some (.cells [.int .i64 3, .int .i64 (asI (nthD cs (xix off 0 2))), .int .u64 0, .int .u64 0, .int .u64 0, .bool false, .int .i64 0, .int .u64 0, .bool false, .int .i64 0] none), some (.cells [.int .i64 3, .int .i64 (asI (nthD cs (xix off 0 2))), .int .u64 0, .int .u64 0, .int .u64 0, .bool false, .int .i64 0, .int .u64 0, .bool false, .int .i64 0] none), some (.cells [.int .i64 3, .int .i64 (asI (nthD cs (xix 0 (xnat at') 2))), .int .u64 0, .int .u64 0, .int .u64 0, .bool false, .int .i64 0, .int .u64 0, .bool false, .int .i64 0] none), some (.cells [.int .i64 3, .int .i64 (asI (nthD cs (xix 0 (xnat at') 2))), .int .u64 0, .int .u64 0, .int .u64 0, .bool false, .int .i64 0, .int .u64 0, .bool false, .int .i64 0] none)] []
          else False
          else False)
         else (
          bif xcm .neq er er then (
           bif xcm .eql en en then
           bif xcm .eql en en then
           bif xcm .eql er er then
           bif xcm .eql er er then
           K .ret [.any, .any, .any, .slo 1 0 n1 0, .bool raw, .bool false, .slo 2 0 m 0, .any, .ptr 3 0, .ptr 6 0, .int .i64 ↑i] [some (.ro qx), some (.ro ax), some (.cells cs (some 2)), some (.cells [.ptr 4 0, .slo 5 off len k, .bool dt, .int .u64 sm] none), some (.cells [.int .i64 me, .int .i64 su, .int .i64 en, .int .i64 bu, .int .i64 er] none), some (.cells cs (some 2)), some (.cells [.int .i64 me, .int .i64 su, .int .i64 en, .int .i64 er, .int .i64 bu, .slo 7 0 m 0, .int .i64 at', .int .u64 sm] none), some (.cells cs (some 2)), some (.cells [.int .i64 3, .int .i64 (asI (nthD cs (xix off 0 2))), .int .u64 0, .int .u64 0, .int .u64 0, .bool false, .int .i64 0, .int .u64 0, .bool false, .int .i64 0] none), some (.cells [.int .i64 3, .int .i64 (asI (nthD cs (xix off 0 2))), .int .u64 0, .int .u64 0, .int .u64 0, .bool false, .int .i64 0, .int .u64 0, .bool false, .int .i64 0] none), some (.cells [.int .i64 3, .int .i64 (asI (nthD cs (xix 0 (xnat at') 2))), .int .u64 0, .int .u64 0, .int .u64 0, .bool false, .int .i64 0, .int .u64 0, .bool false, .int .i64 0] none), some (.cells [.int .i64 3, .int .i64 (asI (nthD cs (xix 0 (xnat at') 2))), .int .u64 0, .int .u64 0, .int .u64 0, .bool false, .int .i64 0, .int .u64 0, .bool false, .int .i64 0] none)] []
           else False
           else False
           else False
           else False)
          else (
           bif xcm .neq bu bu then (
            bif xcm .eql en en then
            bif xcm .eql en en then
            bif xcm .eql er er then
            bif xcm .eql er er then
            bif xcm .eql bu bu then
            bif xcm .eql bu bu then
            K .ret [.any, .any, .any, .slo 1 0 n1 0, .bool raw, .bool false, .slo 2 0 m 0, .any, .ptr 3 0, .ptr 6 0, .int .i64 ↑i] [some (.ro qx), some (.ro ax), some (.cells cs (some 2)), some (.cells [.ptr 4 0, .slo 5 off len k, .bool dt, .int .u64 sm] none), some (.cells [.int .i64 me, .int .i64 su, .int .i64 en, .int .i64 bu, .int .i64 er] none), some (.cells cs (some 2)), some (.cells [.int .i64 me, .int .i64 su, .int .i64 en, .int .i64 er, .int .i64 bu, .slo 7 0 m 0, .int .i64 at', .int .u64 sm] none), some (.cells cs (some 2)), some (.cells [.int .i64 3, .int .i64 (asI (nthD cs (xix off 0 2))), .int .u64 0, .int .u64 0, .int .u64 0, .bool false, .int .i64 0, .int .u64 0, .bool false, .int .i64 0] none), some (.cells [.int .i64 3, .int .i64 (asI (nthD cs (xix off 0 2))), .int .u64 0, .int .u64 0, .int .u64 0, .bool false, .int .i64 0, .int .u64 0, .bool false, .int .i64 0] none), some (.cells [.int .i64 3, .int .i64 (asI (nthD cs (xix 0 (xnat at') 2))), .int .u64 0, .int .u64 0, .int .u64 0, .bool false, .int .i64 0, .int .u64 0, .bool false, .int .i64 0] none), some (.cells [.int .i64 3, .int .i64 (asI (nthD cs (xix 0 (xnat at') 2))), .int .u64 0, .int .u64 0, .int .u64 0, .bool false, .int .i64 0, .int .u64 0, .bool false, .int .i64 0] none)] []
            else False
            else False
            else False
            else False
            else False
            else False)
           else (
            bif xcm .neq en 2 then (
             bif xcm .eql en en then
             bif xcm .eql en en then
             bif xcm .eql er er then
             bif xcm .eql er er then
             bif xcm .eql bu bu then
             bif xcm .eql bu bu then
             K .normal [.any, .any, .any, .slo 1 0 n1 0, .bool raw, .any, .slo 2 0 m 0, .any, .ptr 3 0, .ptr 6 0, .int .i64 ↑i] [some (.ro qx), some (.ro ax), some (.cells cs (some 2)), some (.cells [.ptr 4 0, .slo 5 off len k, .bool dt, .int .u64 sm] none), some (.cells [.int .i64 me, .int .i64 su, .int .i64 en, .int .i64 bu, .int .i64 er] none), some (.cells cs (some 2)), some (.cells [.int .i64 me, .int .i64 su, .int .i64 en, .int .i64 er, .int .i64 bu, .slo 7 0 m 0, .int .i64 at', .int .u64 sm] none), some (.cells cs (some 2)), some (.cells [.int .i64 3, .int .i64 (asI (nthD cs (xix off 0 2))), .int .u64 0, .int .u64 0, .int .u64 0, .bool false, .int .i64 0, .int .u64 0, .bool false, .int .i64 0] none), some (.cells [.int .i64 3, .int .i64 (asI (nthD cs (xix off 0 2))), .int .u64 0, .int .u64 0, .int .u64 0, .bool false, .int .i64 0, .int .u64 0, .bool false, .int .i64 0] none), some (.cells [.int .i64 3, .int .i64 (asI (nthD cs (xix 0 (xnat at') 2))), .int .u64 0, .int .u64 0, .int .u64 0, .bool false, .int .i64 0, .int .u64 0, .bool false, .int .i64 0] none), some (.cells [.int .i64 3, .int .i64 (asI (nthD cs (xix 0 (xnat at') 2))), .int .u64 0, .int .u64 0, .int .u64 0, .bool false, .int .i64 0, .int .u64 0, .bool false, .int .i64 0] none)] []
             else False
             else False
             else False
             else False
             else False
             else False)
            else (
             bif xcm .eql en en then
             bif xcm .eql en en then
             bif xcm .eql er er then
             bif xcm .eql er er then
             bif xcm .eql bu bu then
             bif xcm .eql bu bu then
             bif xcm .neq sm 0 then (
              K .ret [.any, .any, .any, .slo 1 0 n1 0, .bool raw, .bool false, .slo 2 0 m 0, .any, .ptr 3 0, .ptr 6 0, .int .i64 ↑i] [some (.ro qx), some (.ro ax), some (.cells cs (some 2)), some (.cells [.ptr 4 0, .slo 5 off len k, .bool dt, .int .u64 sm] none), some (.cells [.int .i64 me, .int .i64 su, .int .i64 en, .int .i64 bu, .int .i64 er] none), some (.cells cs (some 2)), some (.cells [.int .i64 me, .int .i64 su, .int .i64 en, .int .i64 er, .int .i64 bu, .slo 7 0 m 0, .int .i64 at', .int .u64 sm] none), some (.cells cs (some 2)), some (.cells [.int .i64 3, .int .i64 (asI (nthD cs (xix off 0 2))), .int .u64 0, .int .u64 0, .int .u64 0, .bool false, .int .i64 0, .int .u64 0, .bool false, .int .i64 0] none), some (.cells [.int .i64 3, .int .i64 (asI (nthD cs (xix off 0 2))), .int .u64 0, .int .u64 0, .int .u64 0, .bool false, .int .i64 0, .int .u64 0, .bool false, .int .i64 0] none), some (.cells [.int .i64 3, .int .i64 (asI (nthD cs (xix 0 (xnat at') 2))), .int .u64 0, .int .u64 0, .int .u64 0, .bool false, .int .i64 0, .int .u64 0, .bool false, .int .i64 0] none), some (.cells [.int .i64 3, .int .i64 (asI (nthD cs (xix 0 (xnat at') 2))), .int .u64 0, .int .u64 0, .int .u64 0, .bool false, .int .i64 0, .int .u64 0, .bool false, .int .i64 0] none)] [])
             else (
              K .normal [.any, .any, .any, .slo 1 0 n1 0, .bool raw, .any, .slo 2 0 m 0, .any, .ptr 3 0, .ptr 6 0, .int .i64 ↑i] [some (.ro qx), some (.ro ax), some (.cells cs (some 2)), some (.cells [.ptr 4 0, .slo 5 off len k, .bool dt, .int .u64 sm] none), some (.cells [.int .i64 me, .int .i64 su, .int .i64 en, .int .i64 bu, .int .i64 er] none), some (.cells cs (some 2)), some (.cells [.int .i64 me, .int .i64 su, .int .i64 en, .int .i64 er, .int .i64 bu, .slo 7 0 m 0, .int .i64 at', .int .u64 sm] none), some (.cells cs (some 2)), some (.cells [.int .i64 3, .int .i64 (asI (nthD cs (xix off 0 2))), .int .u64 0, .int .u64 0, .int .u64 0, .bool false, .int .i64 0, .int .u64 0, .bool false, .int .i64 0] none), some (.cells [.int .i64 3, .int .i64 (asI (nthD cs (xix off 0 2))), .int .u64 0, .int .u64 0, .int .u64 0, .bool false, .int .i64 0, .int .u64 0, .bool false, .int .i64 0] none), some (.cells [.int .i64 3, .int .i64 (asI (nthD cs (xix 0 (xnat at') 2))), .int .u64 0, .int .u64 0, .int .u64 0, .bool false, .int .i64 0, .int .u64 0, .bool false, .int .i64 0] none), some (.cells [.int .i64 3, .int .i64 (asI (nthD cs (xix 0 (xnat at') 2))), .int .u64 0, .int .u64 0, .int .u64 0, .bool false, .int .i64 0, .int .u64 0, .bool false, .int .i64 0] none)] [])
             else False
             else False
             else False
             else False
             else False
             else False)))))))
      else False
      else False
      else False
      else False))
    else (
     bif xcm .eql en 2 then (
      bif xnot (xbq true (xcm .eql en 0)) then (
       K .ret [.any, .any, .any, .slo 1 0 n1 0, .bool raw, .bool false, .slo 2 0 m 0, .any, .ptr 3 0, .ptr 6 0, .int .i64 ↑i] [some (.ro qx), some (.ro ax), some (.cells cs (some 2)), some (.cells [.ptr 4 0, .slo 5 off len k, .bool dt, .int .u64 sm] none), some (.cells [.int .i64 me, .int .i64 su, .int .i64 en, .int .i64 bu, .int .i64 er] none), some (.cells cs (some 2)), some (.cells [.int .i64 me, .int .i64 su, .int .i64 en, .int .i64 er, .int .i64 bu, .slo 7 0 m 0, .int .i64 at', .int .u64 sm] none), some (.cells cs (some 2)), some (.cells [.int .i64 3, .int .i64 (asI (nthD cs (xix off 0 2))), .int .u64 0, .int .u64 0, .int .u64 0, .bool false, .int .i64 0, .int .u64 0, .bool false, .int .i64 0] none), some (.cells [.int .i64 3, .int .i64 (asI (nthD cs (xix off 0 2))), .int .u64 0, .int .u64 0, .int .u64 0, .bool false, .int .i64 0, .int .u64 0, .bool false, .int .i64 0] none), some (.cells [.int .i64 0, .int .i64 0, .int .u64 0, .int .u64 0, .int .u64 0, .bool false, .int .i64 0, .int .u64 0, .bool false, .int .i64 0] none)] [])
      else (
       K .ret [.any, .any, .any, .slo 1 0 n1 0, .bool raw, .bool false, .slo 2 0 m 0, .any, .ptr 3 0, .ptr 6 0, .int .i64 ↑i] [some (.ro qx), some (.ro ax), some (.cells cs (some 2)), some (.cells [.ptr 4 0, .slo 5 off len k, .bool dt, .int .u64 sm] none), some (.cells [.int .i64 me, .int .i64 su, .int .i64 en, .int .i64 bu, .int .i64 er] none), some (.cells cs (some 2)), some (.cells [.int .i64 me, .int .i64 su, .int .i64 en, .int .i64 er, .int .i64 bu, .slo 7 0 m 0, .int .i64 at', .int .u64 sm] none), some (.cells cs (some 2)), some (.cells [.int .i64 3, .int .i64 (asI (nthD cs (xix off 0 2))), .int .u64 0, .int .u64 0, .int .u64 0, .bool false, .int .i64 0, .int .u64 0, .bool false, .int .i64 0] none), some (.cells [.int .i64 3, .int .i64 (asI (nthD cs (xix off 0 2))), .int .u64 0, .int .u64 0, .int .u64 0, .bool false, .int .i64 0, .int .u64 0, .bool false, .int .i64 0] none), some (.cells [.int .i64 0, .int .i64 0, .int .u64 0, .int .u64 0, .int .u64 0, .bool false, .int .i64 0, .int .u64 0, .bool false, .int .i64 0] none)] []))
     else (
      bif xnot (xbq true (xcm .eql en 0)) then (
       K .ret [.any, .any, .any, .slo 1 0 n1 0, .bool raw, .bool false, .slo 2 0 m 0, .any, .ptr 3 0, .ptr 6 0, .int .i64 ↑i] [some (.ro qx), some (.ro ax), some (.cells cs (some 2)), some (.cells [.ptr 4 0, .slo 5 off len k, .bool dt, .int .u64 sm] none), some (.cells [.int .i64 me, .int .i64 su, .int .i64 en, .int .i64 bu, .int .i64 er] none), some (.cells cs (some 2)), some (.cells [.int .i64 me, .int .i64 su, .int .i64 en, .int .i64 er, .int .i64 bu, .slo 7 0 m 0, .int .i64 at', .int .u64 sm] none), some (.cells cs (some 2)), some (.cells [.int .i64 3, .int .i64 (asI (nthD cs (xix off 0 2))), .int .u64 0, .int .u64 0, .int .u64 0, .bool false, .int .i64 0, .int .u64 0, .bool false, .int .i64 0] none), some (.cells [.int .i64 3, .int .i64 (asI (nthD cs (xix off 0 2))), .int .u64 0, .int .u64 0, .int .u64 0, .bool false, .int .i64 0, .int .u64 0, .bool false, .int .i64 0] none), some (.cells [.int .i64 0, .int .i64 0, .int .u64 0, .int .u64 0, .int .u64 0, .bool false, .int .i64 0, .int .u64 0, .bool false, .int .i64 0] none)] [])
      else (
       K .ret [.any, .any, .any, .slo 1 0 n1 0, .bool raw, .bool false, .slo 2 0 m 0, .any, .ptr 3 0, .ptr 6 0, .int .i64 ↑i] [some (.ro qx), some (.ro ax), some (.cells cs (some 2)), some (.cells [.ptr 4 0, .slo 5 off len k, .bool dt, .int .u64 sm] none), some (.cells [.int .i64 me, .int .i64 su, .int .i64 en, .int .i64 bu, .int .i64 er] none), some (.cells cs (some 2)), some (.cells [.int .i64 me, .int .i64 su, .int .i64 en, .int .i64 er, .int .i64 bu, .slo 7 0 m 0, .int .i64 at', .int .u64 sm] none), some (.cells cs (some 2)), some (.cells [.int .i64 3, .int .i64 (asI (nthD cs (xix off 0 2))), .int .u64 0, .int .u64 0, .int .u64 0, .bool false, .int .i64 0, .int .u64 0, .bool false, .int .i64 0] none), some (.cells [.int .i64 3, .int .i64 (asI (nthD cs (xix off 0 2))), .int .u64 0, .int .u64 0, .int .u64 0, .bool false, .int .i64 0, .int .u64 0, .bool false, .int .i64 0] none), some (.cells [.int .i64 0, .int .i64 0, .int .u64 0, .int .u64 0, .int .u64 0, .bool false, .int .i64 0, .int .u64 0, .bool false, .int .i64 0] none)] [])))
    else False
    else False
    else False))) := by kernel_rfl
theorem ep_e0 (n1 m i : Nat) (raw : Bool) (qx ax cs : List LV) (me : Int) (off len k : Nat) (sm su bu er : Int) (K : Pk) : (xsp Go.Proofs.Try.prog cxp 40 210 (seg (spineL (blockIn (nthC (spineL (loopOf (nthC (sp Go.Proofs.Try.prog 4) 14))) 2))) 0 9) (mkTm 210 (epU n1 raw m i)) (mkS (epI qx ax cs me off len k m (-1) false sm su 0 bu er)) (vK epL K)) = (
  bif xcm .neq er er then (
   bif xcm .eql er er then
   bif xcm .eql er er then
   K .ret [.any, .any, .any, .slo 1 0 n1 0, .bool raw, .bool false, .slo 2 0 m 0, .any, .ptr 3 0, .ptr 6 0, .int .i64 ↑i] [some (.ro qx), some (.ro ax), some (.cells cs (some 2)), some (.cells [.ptr 4 0, .slo 5 off len k, .bool false, .int .u64 sm] none), some (.cells [.int .i64 me, .int .i64 su, .int .i64 0, .int .i64 bu, .int .i64 er] none), some (.cells cs (some 2)), some (.cells [.int .i64 me, .int .i64 su, .int .i64 0, .int .i64 er, .int .i64 bu, .slo 7 0 m 0, .int .i64 (-1), .int .u64 sm] none), some (.cells cs (some 2)), some (.cells [.int .i64 6, .int .i64 0, .int .u64 0, .int .u64 0, .int .u64 0, .bool false, .int .i64 0, .int .u64 0, .bool false, .int .i64 0] none), some (.cells [.int .i64 6, .int .i64 0, .int .u64 0, .int .u64 0, .int .u64 0, .bool false, .int .i64 0, .int .u64 0, .bool false, .int .i64 0] none), some (.cells [.int .i64 6, .int .i64 0, .int .u64 0, .int .u64 0, .int .u64 0, .bool false, .int .i64 0, .int .u64 0, .bool false, .int .i64 0] none), some (.cells [.int .i64 6, .int .i64 0, .int .u64 0, .int .u64 0, .int .u64 0, .bool false, .int .i64 0, .int .u64 0, .bool false, .int .i64 0] none)] []
   else False
   else False)
  else (
   bif xcm .neq bu bu then (
    bif xcm .eql er er then
    bif xcm .eql er er then
    bif xcm .eql bu bu then
    bif xcm .eql bu bu then
    K .ret [.any, .any, .any, .slo 1 0 n1 0, .bool raw, .bool false, .slo 2 0 m 0, .any, .ptr 3 0, .ptr 6 0, .int .i64 ↑i] [some (.ro qx), some (.ro ax), some (.cells cs (some 2)), some (.cells [.ptr 4 0, .slo 5 off len k, .bool false, .int .u64 sm] none), some (.cells [.int .i64 me, .int .i64 su, .int .i64 0, .int .i64 bu, .int .i64 er] none), some (.cells cs (some 2)), some (.cells [.int .i64 me, .int .i64 su, .int .i64 0, .int .i64 er, .int .i64 bu, .slo 7 0 m 0, .int .i64 (-1), .int .u64 sm] none), some (.cells cs (some 2)), some (.cells [.int .i64 6, .int .i64 0, .int .u64 0, .int .u64 0, .int .u64 0, .bool false, .int .i64 0, .int .u64 0, .bool false, .int .i64 0] none), some (.cells [.int .i64 6, .int .i64 0, .int .u64 0, .int .u64 0, .int .u64 0, .bool false, .int .i64 0, .int .u64 0, .bool false, .int .i64 0] none), some (.cells [.int .i64 6, .int .i64 0, .int .u64 0, .int .u64 0, .int .u64 0, .bool false, .int .i64 0, .int .u64 0, .bool false, .int .i64 0] none), some (.cells [.int .i64 6, .int .i64 0, .int .u64 0, .int .u64 0, .int .u64 0, .bool false, .int .i64 0, .int .u64 0, .bool false, .int .i64 0] none)] []
    else False
    else False
    else False
    else False)
   else (
    bif xcm .eql er er then
    bif xcm .eql er er then
    bif xcm .eql bu bu then
    bif xcm .eql bu bu then
    K .normal [.any, .any, .any, .slo 1 0 n1 0, .bool raw, .any, .slo 2 0 m 0, .any, .ptr 3 0, .ptr 6 0, .int .i64 ↑i] [some (.ro qx), some (.ro ax), some (.cells cs (some 2)), some (.cells [.ptr 4 0, .slo 5 off len k, .bool false, .int .u64 sm] none), some (.cells [.int .i64 me, .int .i64 su, .int .i64 0, .int .i64 bu, .int .i64 er] none), some (.cells cs (some 2)), some (.cells [.int .i64 me, .int .i64 su, .int .i64 0, .int .i64 er, .int .i64 bu, .slo 7 0 m 0, .int .i64 (-1), .int .u64 sm] none), some (.cells cs (some 2)), some (.cells [.int .i64 6, .int .i64 0, .int .u64 0, .int .u64 0, .int .u64 0, .bool false, .int .i64 0, .int .u64 0, .bool false, .int .i64 0] none), some (.cells [.int .i64 6, .int .i64 0, .int .u64 0, .int .u64 0, .int .u64 0, .bool false, .int .i64 0, .int .u64 0, .bool false, .int .i64 0] none), some (.cells [.int .i64 6, .int .i64 0, .int .u64 0, .int .u64 0, .int .u64 0, .bool false, .int .i64 0, .int .u64 0, .bool false, .int .i64 0] none), some (.cells [.int .i64 6, .int .i64 0, .int .u64 0, .int .u64 0, .int .u64 0, .bool false, .int .i64 0, .int .u64 0, .bool false, .int .i64 0] none)] []
    else False
    else False
    else False
    else False))) := by kernel_rfl
theorem ep_e1 (n1 m i : Nat) (raw : Bool) (qx ax cs : List LV) (me : Int) (off len k : Nat) (sm su bu er : Int) (K : Pk) : (xsp Go.Proofs.Try.prog cxp 40 210 (seg (spineL (blockIn (nthC (spineL (loopOf (nthC (sp Go.Proofs.Try.prog 4) 14))) 2))) 0 9) (mkTm 210 (epU n1 raw m i)) (mkS (epI qx ax cs me off len k m (k : Int) true sm su 0 bu er)) (vK epL K)) = (
  bif xle 1 len then
  bif xle (xadd (xix off 0 2) 1) (xln cs) then
  bif isI .i64 (nthD cs (xix off 0 2)) then
  bif xcm .lss (↑k) 0 then (
   K .ret [.any, .any, .any, .slo 1 0 n1 0, .bool raw, .bool false, .slo 2 0 m 0, .any, .ptr 3 0, .ptr 6 0, .int .i64 ↑i] [some (.ro qx), some (.ro ax), some (.cells cs (some 2)), some (.cells [.ptr 4 0, .slo 5 off len k, .bool true, .int .u64 sm] none), some (.cells [.int .i64 me, .int .i64 su, .int .i64 0, .int .i64 bu, .int .i64 er] none), some (.cells cs (some 2)), some (.cells [.int .i64 me, .int .i64 su, .int .i64 0, .int .i64 er, .int .i64 bu, .slo 7 0 m 0, .int .i64 ↑k, .int .u64 sm] none), some (.cells cs (some 2)), some (.cells [.int .i64 3, .int .i64 (asI (nthD cs (xix off 0 2))), .int .u64 0, .int .u64 0, .int .u64 0, .bool false, .int .i64 0, .int .u64 0, .bool false, .int .i64 0] none), some (.cells [.int .i64 3, .int .i64 (asI (nthD cs (xix off 0 2))), .int .u64 0, .int .u64 0, .int .u64 0, .bool false, .int .i64 0, .int .u64 0, .bool false, .int .i64 0] none), some (.cells [.int .i64 6, .int .i64 0, .int .u64 0, .int .u64 0, .int .u64 0, .bool false, .int .i64 0, .int .u64 0, .bool false, .int .i64 0] none), some (.cells [.int .i64 6, .int .i64 0, .int .u64 0, .int .u64 0, .int .u64 0, .bool false, .int .i64 0, .int .u64 0, .bool false, .int .i64 0] none)] [])
  else (
   bif xle (xadd (xnat ↑k) 1) m then
   bif xle (xadd (xix 0 (xnat ↑k) 2) 1) (xln cs) then
   bif isI .i64 (nthD cs (xix 0 (xnat ↑k) 2)) then
   bif xnot (xand true (xand (xcm .eql (asI (nthD cs (xix off 0 2))) (asI (nthD cs (xix 0 (xnat ↑k) 2)))) true)) then (
    K .ret [.any, .any, .any, .slo 1 0 n1 0, .bool raw, .bool false, .slo 2 0 m 0, .any, .ptr 3 0, .ptr 6 0, .int .i64 ↑i] [some (.ro qx), some (.ro ax), some (.cells cs (some 2)), some (.cells [.ptr 4 0, .slo 5 off len k, .bool true, .int .u64 sm] none), some (.cells [.int .i64 me, .int .i64 su, .int .i64 0, .int .i64 bu, .int .i64 er] none), some (.cells cs (some 2)), some (.cells [.int .i64 me, .int .i64 su, .int .i64 0, .int .i64 er, .int .i64 bu, .slo 7 0 m 0, .int .i64 ↑k, .int .u64 sm] none), some (.cells cs (some 2)), some (.cells [.int .i64 3, .int .i64 (asI (nthD cs (xix off 0 2))), .int .u64 0, .int .u64 0, .int .u64 0, .bool false, .int .i64 0, .int .u64 0, .bool false, .int .i64 0] none), some (.cells [.int .i64 3, .int .i64 (asI (nthD cs (xix off 0 2))), .int .u64 0, .int .u64 0, .int .u64 0, .bool false, .int .i64 0, .int .u64 0, .bool false, .int .i64 0] none), some (.cells [.int .i64 3, .int .i64 (asI (nthD cs (xix 0 (xnat ↑k) 2))), .int .u64 0, .int .u64 0, .int .u64 0, .bool false, .int .i64 0, .int .u64 0, .bool false, .int .i64 0] none), some (.cells [.int .i64 3, .int .i64 (asI (nthD cs (xix 0 (xnat ↑k) 2))), .int .u64 0, .int .u64 0, .int .u64 0, .bool false, .int .i64 0, .int .u64 0, .bool false, .int .i64 0] none)] [])
   else (
    bif xcm .neq er er then (
     bif xcm .eql er er then
     bif xcm .eql er er then
     K .ret [.any, .any, .any, .slo 1 0 n1 0, .bool raw, .bool false, .slo 2 0 m 0, .any, .ptr 3 0, .ptr 6 0, .int .i64 ↑i] [some (.ro qx), some (.ro ax), some (.cells cs (some 2)), some (.cells [.ptr 4 0, .slo 5 off len k, .bool true, .int .u64 sm] none), some (.cells [.int .i64 me, .int .i64 su, .int .i64 0, .int .i64 bu, .int .i64 er] none), some (.cells cs (some 2)), some (.cells [.int .i64 me, .int .i64 su, .int .i64 0, .int .i64 er, .int .i64 bu, .slo 7 0 m 0, .int .i64 ↑k, .int .u64 sm] none), some (.cells cs (some 2)), some (.cells [.int .i64 3, .int .i64 (asI (nthD cs (xix off 0 2))), .int .u64 0, .int .u64 0, .int .u64 0, .bool false, .int .i64 0, .int .u64 0, .bool false, .int .i64 0] none), some (.cells [.int .i64 3, .int .i64 (asI (nthD cs (xix off 0 2))), .int .u64 0, .int .u64 0, .int .u64 0, .bool false, .int .i64 0, .int .u64 0, .bool false, .int .i64 0] none), some (.cells [.int .i64 3, .int .i64 (asI (nthD cs (xix 0 (xnat ↑k) 2))), .int .u64 0, .int .u64 0, .int .u64 0, .bool false, .int .i64 0, .int .u64 0, .bool false, .int .i64 0] none), some (.cells [.int .i64 3, .int .i64 (asI (nthD cs (xix 0 (xnat ↑k) 2))), .int .u64 0, .int .u64 0, .int .u64 0, .bool false, .int .i64 0, .int .u64 0, .bool false, .int .i64 0] none)] []
     else False
     else False)
    else (
     bif xcm .neq bu bu then (
      bif xcm .eql er er then
      bif xcm .eql er er then
      bif xcm .eql bu bu then
      bif xcm .eql bu bu then
      K .ret [.any, .any, .any, .slo 1 0 n1 0, .bool raw, .bool false, .slo 2 0 m 0, .any, .ptr 3 0, .ptr 6 0, .int .i64 ↑i] [some (.ro qx), some (.ro ax), some (.cells cs (some 2)), some (.cells [.ptr 4 0, .slo 5 off len k, .bool true, .int .u64 sm] none), some (.cells [.int .i64 me, .int .i64 su, .int .i64 0, .int .i64 bu, .int .i64 er] none), some (.cells cs (some 2)), some (.cells [.int .i64 me, .int .i64 su, .int .i64 0, .int .i64 er, .int .i64 bu, .slo 7 0 m 0, .int .i64 ↑k, .int .u64 sm] none), some (.cells cs (some 2)), some (.cells [.int .i64 3, .int .i64 (asI (nthD cs (xix off 0 2))), .int .u64 0, .int .u64 0, .int .u64 0, .bool false, .int .i64 0, .int .u64 0, .bool false, .int .i64 0] none), some (.cells [.int .i64 3, .int .i64 (asI (nthD cs (xix off 0 2))), .int .u64 0, .int .u64 0, .int .u64 0, .bool false, .int .i64 0, .int .u64 0, .bool false, .int .i64 0] none), some (.cells [.int .i64 3, .int .i64 (asI (nthD cs (xix 0 (xnat ↑k) 2))), .int .u64 0, .int .u64 0, .int .u64 0, .bool false, .int .i64 0, .int .u64 0, .bool false, .int .i64 0] none), some (.cells [.int .i64 3, .int .i64 (asI (nthD cs (xix 0 (xnat ↑k) 2))), .int .u64 0, .int .u64 0, .int .u64 0, .bool false, .int .i64 0, .int .u64 0, .bool false, .int .i64 0] none)] []
      else False
      else False
      else False
      else False)
     else (
      bif xcm .eql er er then
      bif xcm .eql er er then
      bif xcm .eql bu bu then
      bif xcm .eql bu bu then
      K .normal [.any, .any, .any, .slo 1 0 n1 0, .bool raw, .any, .slo 2 0 m 0, .any, .ptr 3 0, .ptr 6 0, .int .i64 ↑i] [some (.ro qx), some (.ro ax), some (.cells cs (some 2)), some (.cells [.ptr 4 0, .slo 5 off len k, .bool true, .int .u64 sm] none), some (.cells [.int .i64 me, .int .i64 su, .int .i64 0, .int .i64 bu, .int .i64 er] none), some (.cells cs (some 2)), some (.cells [.int .i64 me, .int .i64 su, .int .i64 0, .int .i64 er, .int .i64 bu, .slo 7 0 m 0, .int .i64 ↑k, .int .u64 sm] none), some (.cells cs (some 2)), some (.cells [.int .i64 3, .int .i64 (asI (nthD cs (xix off 0 2))), .int .u64 0, .int .u64 0, .int .u64 0, .bool false, .int .i64 0, .int .u64 0, .bool false, .int .i64 0] none), some (.cells [.int .i64 3, .int .i64 (asI (nthD cs (xix off 0 2))), .int .u64 0, .int .u64 0, .int .u64 0, .bool false, .int .i64 0, .int .u64 0, .bool false, .int .i64 0] none), some (.cells [.int .i64 3, .int .i64 (asI (nthD cs (xix 0 (xnat ↑k) 2))), .int .u64 0, .int .u64 0, .int .u64 0, .bool false, .int .i64 0, .int .u64 0, .bool false, .int .i64 0] none), some (.cells [.int .i64 3, .int .i64 (asI (nthD cs (xix 0 (xnat ↑k) 2))), .int .u64 0, .int .u64 0, .int .u64 0, .bool false, .int .i64 0, .int .u64 0, .bool false, .int .i64 0] none)] []
      else False
      else False
      else False
      else False)))
   else False
   else False
   else False)
  else False
  else False
  else False) := by kernel_rfl
end
end Go.Lev
