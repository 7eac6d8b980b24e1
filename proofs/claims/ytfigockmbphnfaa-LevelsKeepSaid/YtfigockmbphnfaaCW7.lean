/- flat asks at one, two, three levels: trees -/
import Derived.Test.YtfigockmbphnfaaCW6
import Derived.Test.YtfigockmbphnfaaLc
import Derived.Test.YtfigockmbphnfaaChecked
import Derived.KernelRfl

namespace Go.Lev
open Go.RowKit
set_option linter.unusedVariables false
set_option linter.unusedSimpArgs false
set_option maxRecDepth 100000
noncomputable section
def cxl9 : Cx := cxl [(35, withinG), (47, orG findG find0G), (30, orG takeG (orG take1G take0G))]
abbrev flL : List Nat := [0, 1, 4, 5]
abbrev flT (nx i : Nat) : List (Nat × LV) := [(0, .ptr 1 0), (1, .slo 0 0 nx 0), (5, .int .i64 i)]
abbrev flH1 (ax : List LV) (n0 fn0 : Nat) (cs0 fs0 : List LV) : List LB := [.ro ax, .cells [.int .i64 96, .sl 2 0 1 1] none, .cells [.ptr 3 0] none, .cells [.ptr 4 0, .slo 6 0 fn0 0] none, .cells [.int .i64 96, .slo 5 0 n0 0] none, .cells cs0 (some 2), .cells fs0 (some 1)]
abbrev flH2 (ax : List LV) (n0 fn0 : Nat) (cs0 fs0 : List LV) (n1 fn1 : Nat) (cs1 fs1 : List LV) : List LB := [.ro ax, .cells [.int .i64 96, .slo 2 0 2 0] none, .cells [.ptr 3 0, .ptr 7 0] (some 1), .cells [.ptr 4 0, .slo 6 0 fn0 0] none, .cells [.int .i64 96, .slo 5 0 n0 0] none, .cells cs0 (some 2), .cells fs0 (some 1), .cells [.ptr 8 0, .slo 10 0 fn1 0] none, .cells [.int .i64 96, .slo 9 0 n1 0] none, .cells cs1 (some 2), .cells fs1 (some 1)]
abbrev flH3 (ax : List LV) (n0 fn0 : Nat) (cs0 fs0 : List LV) (n1 fn1 : Nat) (cs1 fs1 : List LV) (n2 fn2 : Nat) (cs2 fs2 : List LV) : List LB := [.ro ax, .cells [.int .i64 96, .slo 2 0 3 0] none, .cells [.ptr 3 0, .ptr 7 0, .ptr 11 0] (some 1), .cells [.ptr 4 0, .slo 6 0 fn0 0] none, .cells [.int .i64 96, .slo 5 0 n0 0] none, .cells cs0 (some 2), .cells fs0 (some 1), .cells [.ptr 8 0, .slo 10 0 fn1 0] none, .cells [.int .i64 96, .slo 9 0 n1 0] none, .cells cs1 (some 2), .cells fs1 (some 1), .cells [.ptr 12 0, .slo 14 0 fn2 0] none, .cells [.int .i64 96, .slo 13 0 n2 0] none, .cells cs2 (some 2), .cells fs2 (some 1)]
theorem cxl9_ok : CtrOk Go.Proofs.Try.prog (ctrOf cxl9) := cxl_ok ⟨withinG_ok, orG_ok findG_ok find0G_ok, orG_ok takeG_ok (orG_ok take1G_ok take0G_ok), trivial⟩
theorem fl1_b (nx i : Nat) (ax : List LV) (n0 fn0 : Nat) (cs0 fs0 : List LV) (K : Pk) : (xcode Go.Proofs.Try.prog cxl9 100 44 (loopOf (nthC (sp Go.Proofs.Try.prog 23) 2)) (mkTm 44 (flT nx i)) (mkS (flH1 ax n0 fn0 cs0 fs0)) (vK flL K)) = (
  bif xcm .lss ↑i ↑nx then (
   bif xcm .lss (↑i) 12 then (
    bif xle (xadd (xnat ↑i) 1) nx then
    bif xle (xadd (xix 0 (xnat ↑i) 4) 1) (xln ax) then
    bif isI .i64 (nthD ax (xix 0 (xnat ↑i) 4)) then
    bif xcm .eql (xar .and .i64 (asI (nthD ax (xix 0 (xnat ↑i) 4))) 3) 3 then (
     bif xle (xadd (xnat ↑i) 1) nx then
     bif xle (xadd (xadd (xix 0 (xnat ↑i) 4) 1) 1) (xln ax) then
     bif isI .i64 (nthD ax (xadd (xix 0 (xnat ↑i) 4) 1)) then
     bif xle (xadd fn0 1) 1000000 then
     bif xle (xadd 0 (xmul fn0 1)) (xln fs0) then
     K .normal [.ptr 1 0, .slo 0 0 nx 0, .any, .int .i64 (xar .add .i64 (↑i) 1)] [some (.ro ax), some (.cells [.int .i64 96, .sl 2 0 1 1] none), some (.cells [.ptr 3 0] none), some (.cells [.ptr 4 0, .slo 8 0 (xadd fn0 1) 0] none), some (.cells [.int .i64 96, .slo 5 0 n0 0] none), some (.cells cs0 (some 2)), some .dead, some (.cells [.int .i64 (asI (nthD ax (xadd (xix 0 (xnat ↑i) 4) 1)))] none), some (.cells (xcat (xcut fs0 0 (xmul fn0 1)) [.int .i64 (asI (nthD ax (xadd (xix 0 (xnat ↑i) 4) 1)))]) (some 1))] []
     else False
     else False
     else False
     else False
     else False)
    else (
     bif xle (xadd (xnat ↑i) 1) nx then
     bif xle (xadd (xadd (xix 0 (xnat ↑i) 4) 1) 1) (xln ax) then
     bif isI .i64 (nthD ax (xadd (xix 0 (xnat ↑i) 4) 1)) then
     bif xle (xadd (xnat ↑i) 1) nx then
     bif xle (xadd (xadd (xix 0 (xnat ↑i) 4) 2) 1) (xln ax) then
     bif isI .u64 (nthD ax (xadd (xix 0 (xnat ↑i) 4) 2)) then
     bif okC cs0 n0 then
     bif xcm .geq (fndW cs0 (wthV (asI (nthD ax (xadd (xix 0 (xnat ↑i) 4) 1))) 1 20)) 0 then (
      bif xnn (fndW cs0 (wthV (asI (nthD ax (xadd (xix 0 (xnat ↑i) 4) 1))) 1 20)) then
      bif xle (xadd (xnat (fndW cs0 (wthV (asI (nthD ax (xadd (xix 0 (xnat ↑i) 4) 1))) 1 20))) 1) n0 then
      bif xle (xadd (xadd (xix 0 (xnat (fndW cs0 (wthV (asI (nthD ax (xadd (xix 0 (xnat ↑i) 4) 1))) 1 20))) 2) 1) 1) (xln cs0) then
      bif isI .u64 (nthD cs0 (xadd (xix 0 (xnat (fndW cs0 (wthV (asI (nthD ax (xadd (xix 0 (xnat ↑i) 4) 1))) 1 20))) 2) 1)) then
      bif okC cs0 n0 then
      bif xle (xadd n0 1) 1000000 then
      bif xle (xadd (xadd (xix 0 (xnat ↑i) 4) 2) 1) (xln ax) then
      bif isI .u64 (nthD ax (xadd (xix 0 (xnat ↑i) 4) 2)) then
      bif xcm .eql (asI (nthD ax (xadd (xix 0 (xnat ↑i) 4) 2))) (asI (nthD ax (xadd (xix 0 (xnat ↑i) 4) 2))) then
      bif xle (xadd (xadd (xix 0 (xnat ↑i) 4) 2) 1) (xln ax) then
      bif isI .u64 (nthD ax (xadd (xix 0 (xnat ↑i) 4) 2)) then
      bif xcm .eql (asI (nthD ax (xadd (xix 0 (xnat ↑i) 4) 2))) (asI (nthD ax (xadd (xix 0 (xnat ↑i) 4) 2))) then
      bif xcm .neq (putE 96 n0 cs0 (wthV (asI (nthD ax (xadd (xix 0 (xnat ↑i) 4) 1))) 1 20) (asI (nthD ax (xadd (xix 0 (xnat ↑i) 4) 2)))) 0 then (
       K .ret [.ptr 1 0, .slo 0 0 nx 0, .bool false, .int .i64 ↑i] [some (.ro ax), some (.cells [.int .i64 96, .sl 2 0 1 1] none), some (.cells [.ptr 3 0] none), some (.cells [.ptr 4 0, .slo 6 0 fn0 0] none), some (.cells [.int .i64 96, .slo 10 0 (tk1N 96 n0 cs0 (wthV (asI (nthD ax (xadd (xix 0 (xnat ↑i) 4) 1))) 1 20) (asI (nthD ax (xadd (xix 0 (xnat ↑i) 4) 2)))) 0] none), some .dead, some (.cells fs0 (some 1)), some (.cells [.int .i64 (wthV (asI (nthD ax (xadd (xix 0 (xnat ↑i) 4) 1))) 1 20), .int .u64 (asI (nthD ax (xadd (xix 0 (xnat ↑i) 4) 2)))] none), some (.cells [.int .i64 (xmn (xmx (xar .sub .i64 96 ↑n0) 0) 96), .nils] none), some (.cells [.int .i64 (wthV (asI (nthD ax (xadd (xix 0 (xnat ↑i) 4) 1))) 1 20), .int .u64 (asI (nthD ax (xadd (xix 0 (xnat ↑i) 4) 2)))] none), some (.cells (tk1C 96 n0 cs0 (wthV (asI (nthD ax (xadd (xix 0 (xnat ↑i) 4) 1))) 1 20) (asI (nthD ax (xadd (xix 0 (xnat ↑i) 4) 2)))) (some 2))] [])
      else (
       K .normal [.ptr 1 0, .slo 0 0 nx 0, .any, .int .i64 (xar .add .i64 (↑i) 1)] [some (.ro ax), some (.cells [.int .i64 96, .sl 2 0 1 1] none), some (.cells [.ptr 3 0] none), some (.cells [.ptr 4 0, .slo 6 0 fn0 0] none), some (.cells [.int .i64 96, .slo 10 0 (tk1N 96 n0 cs0 (wthV (asI (nthD ax (xadd (xix 0 (xnat ↑i) 4) 1))) 1 20) (asI (nthD ax (xadd (xix 0 (xnat ↑i) 4) 2)))) 0] none), some .dead, some (.cells fs0 (some 1)), some (.cells [.int .i64 (wthV (asI (nthD ax (xadd (xix 0 (xnat ↑i) 4) 1))) 1 20), .int .u64 (asI (nthD ax (xadd (xix 0 (xnat ↑i) 4) 2)))] none), some (.cells [.int .i64 (xmn (xmx (xar .sub .i64 96 ↑n0) 0) 96), .nils] none), some (.cells [.int .i64 (wthV (asI (nthD ax (xadd (xix 0 (xnat ↑i) 4) 1))) 1 20), .int .u64 (asI (nthD ax (xadd (xix 0 (xnat ↑i) 4) 2)))] none), some (.cells (tk1C 96 n0 cs0 (wthV (asI (nthD ax (xadd (xix 0 (xnat ↑i) 4) 1))) 1 20) (asI (nthD ax (xadd (xix 0 (xnat ↑i) 4) 2)))) (some 2))] [])
      else False
      else False
      else False
      else False
      else False
      else False
      else False
      else False
      else False
      else False
      else False
      else False)
     else (
      bif xcm .lss (wthV (asI (nthD ax (xadd (xix 0 (xnat ↑i) 4) 1))) 1 20) 1 then (
       bif xle (xadd (xadd (xix 0 (xnat ↑i) 4) 2) 1) (xln ax) then
       bif isI .u64 (nthD ax (xadd (xix 0 (xnat ↑i) 4) 2)) then
       bif xcm .eql (asI (nthD ax (xadd (xix 0 (xnat ↑i) 4) 2))) (asI (nthD ax (xadd (xix 0 (xnat ↑i) 4) 2))) then
       bif xle (xadd (xadd (xix 0 (xnat ↑i) 4) 2) 1) (xln ax) then
       bif isI .u64 (nthD ax (xadd (xix 0 (xnat ↑i) 4) 2)) then
       bif xcm .eql (asI (nthD ax (xadd (xix 0 (xnat ↑i) 4) 2))) (asI (nthD ax (xadd (xix 0 (xnat ↑i) 4) 2))) then
       K .ret [.ptr 1 0, .slo 0 0 nx 0, .bool false, .int .i64 ↑i] [some (.ro ax), some (.cells [.int .i64 96, .sl 2 0 1 1] none), some (.cells [.ptr 3 0] none), some (.cells [.ptr 4 0, .slo 6 0 fn0 0] none), some (.cells [.int .i64 96, .slo 5 0 n0 0] none), some (.cells cs0 (some 2)), some (.cells fs0 (some 1)), some (.cells [.int .i64 (wthV (asI (nthD ax (xadd (xix 0 (xnat ↑i) 4) 1))) 1 20), .int .u64 (asI (nthD ax (xadd (xix 0 (xnat ↑i) 4) 2)))] none), some (.cells [.int .i64 (xmn (xmx (xar .sub .i64 96 ↑n0) 0) 96), .nils] none), some (.cells [.int .i64 (wthV (asI (nthD ax (xadd (xix 0 (xnat ↑i) 4) 1))) 1 20), .int .u64 (asI (nthD ax (xadd (xix 0 (xnat ↑i) 4) 2)))] none)] []
       else False
       else False
       else False
       else False
       else False
       else False)
      else (
       bif xcm .geq (wthV (asI (nthD ax (xadd (xix 0 (xnat ↑i) 4) 1))) 1 20) 256 then (
        bif xle (xadd (xadd (xix 0 (xnat ↑i) 4) 2) 1) (xln ax) then
        bif isI .u64 (nthD ax (xadd (xix 0 (xnat ↑i) 4) 2)) then
        bif xcm .eql (asI (nthD ax (xadd (xix 0 (xnat ↑i) 4) 2))) (asI (nthD ax (xadd (xix 0 (xnat ↑i) 4) 2))) then
        bif xle (xadd (xadd (xix 0 (xnat ↑i) 4) 2) 1) (xln ax) then
        bif isI .u64 (nthD ax (xadd (xix 0 (xnat ↑i) 4) 2)) then
        bif xcm .eql (asI (nthD ax (xadd (xix 0 (xnat ↑i) 4) 2))) (asI (nthD ax (xadd (xix 0 (xnat ↑i) 4) 2))) then
        K .ret [.ptr 1 0, .slo 0 0 nx 0, .bool false, .int .i64 ↑i] [some (.ro ax), some (.cells [.int .i64 96, .sl 2 0 1 1] none), some (.cells [.ptr 3 0] none), some (.cells [.ptr 4 0, .slo 6 0 fn0 0] none), some (.cells [.int .i64 96, .slo 5 0 n0 0] none), some (.cells cs0 (some 2)), some (.cells fs0 (some 1)), some (.cells [.int .i64 (wthV (asI (nthD ax (xadd (xix 0 (xnat ↑i) 4) 1))) 1 20), .int .u64 (asI (nthD ax (xadd (xix 0 (xnat ↑i) 4) 2)))] none), some (.cells [.int .i64 (xmn (xmx (xar .sub .i64 96 ↑n0) 0) 96), .nils] none), some (.cells [.int .i64 (wthV (asI (nthD ax (xadd (xix 0 (xnat ↑i) 4) 1))) 1 20), .int .u64 (asI (nthD ax (xadd (xix 0 (xnat ↑i) 4) 2)))] none)] []
        else False
        else False
        else False
        else False
        else False
        else False)
       else (
        bif xcm .geq 0 (xmn (xmx (xar .sub .i64 96 ↑n0) 0) 96) then (
         bif xle (xadd (xadd (xix 0 (xnat ↑i) 4) 2) 1) (xln ax) then
         bif isI .u64 (nthD ax (xadd (xix 0 (xnat ↑i) 4) 2)) then
         bif xcm .eql (asI (nthD ax (xadd (xix 0 (xnat ↑i) 4) 2))) (asI (nthD ax (xadd (xix 0 (xnat ↑i) 4) 2))) then
         bif xle (xadd (xadd (xix 0 (xnat ↑i) 4) 2) 1) (xln ax) then
         bif isI .u64 (nthD ax (xadd (xix 0 (xnat ↑i) 4) 2)) then
         bif xcm .eql (asI (nthD ax (xadd (xix 0 (xnat ↑i) 4) 2))) (asI (nthD ax (xadd (xix 0 (xnat ↑i) 4) 2))) then
         K .ret [.ptr 1 0, .slo 0 0 nx 0, .bool false, .int .i64 ↑i] [some (.ro ax), some (.cells [.int .i64 96, .sl 2 0 1 1] none), some (.cells [.ptr 3 0] none), some (.cells [.ptr 4 0, .slo 6 0 fn0 0] none), some (.cells [.int .i64 96, .slo 5 0 n0 0] none), some (.cells cs0 (some 2)), some (.cells fs0 (some 1)), some (.cells [.int .i64 (wthV (asI (nthD ax (xadd (xix 0 (xnat ↑i) 4) 1))) 1 20), .int .u64 (asI (nthD ax (xadd (xix 0 (xnat ↑i) 4) 2)))] none), some (.cells [.int .i64 (xmn (xmx (xar .sub .i64 96 ↑n0) 0) 96), .nils] none), some (.cells [.int .i64 (wthV (asI (nthD ax (xadd (xix 0 (xnat ↑i) 4) 1))) 1 20), .int .u64 (asI (nthD ax (xadd (xix 0 (xnat ↑i) 4) 2)))] none)] []
         else False
         else False
         else False
         else False
         else False
         else False)
        else (
         bif okC cs0 n0 then
         bif xle (xadd n0 1) 1000000 then
         bif xle (xadd (xadd (xix 0 (xnat ↑i) 4) 2) 1) (xln ax) then
         bif isI .u64 (nthD ax (xadd (xix 0 (xnat ↑i) 4) 2)) then
         bif xcm .eql (asI (nthD ax (xadd (xix 0 (xnat ↑i) 4) 2))) (asI (nthD ax (xadd (xix 0 (xnat ↑i) 4) 2))) then
         bif xle (xadd (xadd (xix 0 (xnat ↑i) 4) 2) 1) (xln ax) then
         bif isI .u64 (nthD ax (xadd (xix 0 (xnat ↑i) 4) 2)) then
         bif xcm .eql (asI (nthD ax (xadd (xix 0 (xnat ↑i) 4) 2))) (asI (nthD ax (xadd (xix 0 (xnat ↑i) 4) 2))) then
         bif xcm .neq (putE 96 n0 cs0 (wthV (asI (nthD ax (xadd (xix 0 (xnat ↑i) 4) 1))) 1 20) (asI (nthD ax (xadd (xix 0 (xnat ↑i) 4) 2)))) 0 then (
          K .ret [.ptr 1 0, .slo 0 0 nx 0, .bool false, .int .i64 ↑i] [some (.ro ax), some (.cells [.int .i64 96, .sl 2 0 1 1] none), some (.cells [.ptr 3 0] none), some (.cells [.ptr 4 0, .slo 6 0 fn0 0] none), some (.cells [.int .i64 96, .slo 12 0 (tk1N 96 n0 cs0 (wthV (asI (nthD ax (xadd (xix 0 (xnat ↑i) 4) 1))) 1 20) (asI (nthD ax (xadd (xix 0 (xnat ↑i) 4) 2)))) 0] none), some .dead, some (.cells fs0 (some 1)), some (.cells [.int .i64 (wthV (asI (nthD ax (xadd (xix 0 (xnat ↑i) 4) 1))) 1 20), .int .u64 (asI (nthD ax (xadd (xix 0 (xnat ↑i) 4) 2)))] none), some (.cells [.int .i64 (xmn (xmx (xar .sub .i64 96 ↑n0) 0) 96), .slo 11 0 1 0] none), some (.cells [.int .i64 (wthV (asI (nthD ax (xadd (xix 0 (xnat ↑i) 4) 1))) 1 20), .int .u64 (asI (nthD ax (xadd (xix 0 (xnat ↑i) 4) 2)))] none), some (.cells [.int .i64 (wthV (asI (nthD ax (xadd (xix 0 (xnat ↑i) 4) 1))) 1 20), .int .u64 (asI (nthD ax (xadd (xix 0 (xnat ↑i) 4) 2)))] none), some (.cells [.int .i64 (wthV (asI (nthD ax (xadd (xix 0 (xnat ↑i) 4) 1))) 1 20), .int .u64 (asI (nthD ax (xadd (xix 0 (xnat ↑i) 4) 2)))] (some 2)), some (.cells (tk1C 96 n0 cs0 (wthV (asI (nthD ax (xadd (xix 0 (xnat ↑i) 4) 1))) 1 20) (asI (nthD ax (xadd (xix 0 (xnat ↑i) 4) 2)))) (some 2))] [])
         else (
          K .normal [.ptr 1 0, .slo 0 0 nx 0, .any, .int .i64 (xar .add .i64 (↑i) 1)] [some (.ro ax), some (.cells [.int .i64 96, .sl 2 0 1 1] none), some (.cells [.ptr 3 0] none), some (.cells [.ptr 4 0, .slo 6 0 fn0 0] none), some (.cells [.int .i64 96, .slo 12 0 (tk1N 96 n0 cs0 (wthV (asI (nthD ax (xadd (xix 0 (xnat ↑i) 4) 1))) 1 20) (asI (nthD ax (xadd (xix 0 (xnat ↑i) 4) 2)))) 0] none), some .dead, some (.cells fs0 (some 1)), some (.cells [.int .i64 (wthV (asI (nthD ax (xadd (xix 0 (xnat ↑i) 4) 1))) 1 20), .int .u64 (asI (nthD ax (xadd (xix 0 (xnat ↑i) 4) 2)))] none), some (.cells [.int .i64 (xmn (xmx (xar .sub .i64 96 ↑n0) 0) 96), .slo 11 0 1 0] none), some (.cells [.int .i64 (wthV (asI (nthD ax (xadd (xix 0 (xnat ↑i) 4) 1))) 1 20), .int .u64 (asI (nthD ax (xadd (xix 0 (xnat ↑i) 4) 2)))] none), some (.cells [.int .i64 (wthV (asI (nthD ax (xadd (xix 0 (xnat ↑i) 4) 1))) 1 20), .int .u64 (asI (nthD ax (xadd (xix 0 (xnat ↑i) 4) 2)))] none), some (.cells [.int .i64 (wthV (asI (nthD ax (xadd (xix 0 (xnat ↑i) 4) 1))) 1 20), .int .u64 (asI (nthD ax (xadd (xix 0 (xnat ↑i) 4) 2)))] (some 2)), some (.cells (tk1C 96 n0 cs0 (wthV (asI (nthD ax (xadd (xix 0 (xnat ↑i) 4) 1))) 1 20) (asI (nthD ax (xadd (xix 0 (xnat ↑i) 4) 2)))) (some 2))] [])
         else False
         else False
         else False
         else False
         else False
         else False
         else False
         else False))))
     else False
     else False
     else False
     else False
     else False
     else False
     else False)
    else False
    else False
    else False)
   else (
    K (.exit 0) [.ptr 1 0, .slo 0 0 nx 0, .any, .int .i64 ↑i] [some (.ro ax), some (.cells [.int .i64 96, .sl 2 0 1 1] none), some (.cells [.ptr 3 0] none), some (.cells [.ptr 4 0, .slo 6 0 fn0 0] none), some (.cells [.int .i64 96, .slo 5 0 n0 0] none), some (.cells cs0 (some 2)), some (.cells fs0 (some 1))] []))
  else (
   K (.exit 0) [.ptr 1 0, .slo 0 0 nx 0, .any, .int .i64 ↑i] [some (.ro ax), some (.cells [.int .i64 96, .sl 2 0 1 1] none), some (.cells [.ptr 3 0] none), some (.cells [.ptr 4 0, .slo 6 0 fn0 0] none), some (.cells [.int .i64 96, .slo 5 0 n0 0] none), some (.cells cs0 (some 2)), some (.cells fs0 (some 1))] [])) := by kernel_rfl
theorem fl1_z (nx i : Nat) (ax : List LV) (n0 fn0 : Nat) (cs0 fs0 : List LV) (K : Pk) : (xsp Go.Proofs.Try.prog cxl9 100 44 ((sp Go.Proofs.Try.prog 23).drop 3) (mkTm 44 (flT nx i)) (mkS (flH1 ax n0 fn0 cs0 fs0)) (vK flL K)) = (
  K .ret [.ptr 1 0, .slo 0 0 nx 0, .bool true, .int .i64 ↑i] [some (.ro ax), some (.cells [.int .i64 96, .sl 2 0 1 1] none), some (.cells [.ptr 3 0] none), some (.cells [.ptr 4 0, .slo 6 0 fn0 0] none), some (.cells [.int .i64 96, .slo 5 0 n0 0] none), some (.cells cs0 (some 2)), some (.cells fs0 (some 1))] []) := by kernel_rfl
theorem fl2_b (nx i : Nat) (ax : List LV) (n0 fn0 : Nat) (cs0 fs0 : List LV) (n1 fn1 : Nat) (cs1 fs1 : List LV) (K : Pk) : (xcode Go.Proofs.Try.prog cxl9 100 44 (loopOf (nthC (sp Go.Proofs.Try.prog 23) 2)) (mkTm 44 (flT nx i)) (mkS (flH2 ax n0 fn0 cs0 fs0 n1 fn1 cs1 fs1)) (vK flL K)) = (
  bif xcm .lss ↑i ↑nx then (
   bif xcm .lss (↑i) 12 then (
    bif xle (xadd (xnat ↑i) 1) nx then
    bif xle (xadd (xix 0 (xnat ↑i) 4) 1) (xln ax) then
    bif isI .i64 (nthD ax (xix 0 (xnat ↑i) 4)) then
    bif xcm .eql (xar .and .i64 (asI (nthD ax (xix 0 (xnat ↑i) 4))) 3) 3 then (
     bif xle (xadd (xnat ↑i) 1) nx then
     bif xle (xadd (xadd (xix 0 (xnat ↑i) 4) 1) 1) (xln ax) then
     bif isI .i64 (nthD ax (xadd (xix 0 (xnat ↑i) 4) 1)) then
     bif xle (xadd fn1 1) 1000000 then
     bif xle (xadd 0 (xmul fn1 1)) (xln fs1) then
     K .normal [.ptr 1 0, .slo 0 0 nx 0, .any, .int .i64 (xar .add .i64 (↑i) 1)] [some (.ro ax), some (.cells [.int .i64 96, .slo 2 0 2 0] none), some (.cells [.ptr 3 0, .ptr 7 0] (some 1)), some (.cells [.ptr 4 0, .slo 6 0 fn0 0] none), some (.cells [.int .i64 96, .slo 5 0 n0 0] none), some (.cells cs0 (some 2)), some (.cells fs0 (some 1)), some (.cells [.ptr 8 0, .slo 12 0 (xadd fn1 1) 0] none), some (.cells [.int .i64 96, .slo 9 0 n1 0] none), some (.cells cs1 (some 2)), some .dead, some (.cells [.int .i64 (asI (nthD ax (xadd (xix 0 (xnat ↑i) 4) 1)))] none), some (.cells (xcat (xcut fs1 0 (xmul fn1 1)) [.int .i64 (asI (nthD ax (xadd (xix 0 (xnat ↑i) 4) 1)))]) (some 1))] []
     else False
     else False
     else False
     else False
     else False)
    else (
     bif xle (xadd (xnat ↑i) 1) nx then
     bif xle (xadd (xadd (xix 0 (xnat ↑i) 4) 1) 1) (xln ax) then
     bif isI .i64 (nthD ax (xadd (xix 0 (xnat ↑i) 4) 1)) then
     bif xle (xadd (xnat ↑i) 1) nx then
     bif xle (xadd (xadd (xix 0 (xnat ↑i) 4) 2) 1) (xln ax) then
     bif isI .u64 (nthD ax (xadd (xix 0 (xnat ↑i) 4) 2)) then
     bif okC cs1 n1 then
     bif xcm .geq (fndW cs1 (wthV (asI (nthD ax (xadd (xix 0 (xnat ↑i) 4) 1))) 1 20)) 0 then (
      bif xnn (fndW cs1 (wthV (asI (nthD ax (xadd (xix 0 (xnat ↑i) 4) 1))) 1 20)) then
      bif xle (xadd (xnat (fndW cs1 (wthV (asI (nthD ax (xadd (xix 0 (xnat ↑i) 4) 1))) 1 20))) 1) n1 then
      bif xle (xadd (xadd (xix 0 (xnat (fndW cs1 (wthV (asI (nthD ax (xadd (xix 0 (xnat ↑i) 4) 1))) 1 20))) 2) 1) 1) (xln cs1) then
      bif isI .u64 (nthD cs1 (xadd (xix 0 (xnat (fndW cs1 (wthV (asI (nthD ax (xadd (xix 0 (xnat ↑i) 4) 1))) 1 20))) 2) 1)) then
      bif okC cs1 n1 then
      bif xle (xadd n1 1) 1000000 then
      bif xle (xadd (xadd (xix 0 (xnat ↑i) 4) 2) 1) (xln ax) then
      bif isI .u64 (nthD ax (xadd (xix 0 (xnat ↑i) 4) 2)) then
      bif xcm .eql (asI (nthD ax (xadd (xix 0 (xnat ↑i) 4) 2))) (asI (nthD ax (xadd (xix 0 (xnat ↑i) 4) 2))) then
      bif xle (xadd (xadd (xix 0 (xnat ↑i) 4) 2) 1) (xln ax) then
      bif isI .u64 (nthD ax (xadd (xix 0 (xnat ↑i) 4) 2)) then
      bif xcm .eql (asI (nthD ax (xadd (xix 0 (xnat ↑i) 4) 2))) (asI (nthD ax (xadd (xix 0 (xnat ↑i) 4) 2))) then
      bif xcm .neq (putE 96 n1 cs1 (wthV (asI (nthD ax (xadd (xix 0 (xnat ↑i) 4) 1))) 1 20) (asI (nthD ax (xadd (xix 0 (xnat ↑i) 4) 2)))) 0 then (
       K .ret [.ptr 1 0, .slo 0 0 nx 0, .bool false, .int .i64 ↑i] [some (.ro ax), some (.cells [.int .i64 96, .slo 2 0 2 0] none), some (.cells [.ptr 3 0, .ptr 7 0] (some 1)), some (.cells [.ptr 4 0, .slo 6 0 fn0 0] none), some (.cells [.int .i64 96, .slo 5 0 n0 0] none), some (.cells cs0 (some 2)), some (.cells fs0 (some 1)), some (.cells [.ptr 8 0, .slo 10 0 fn1 0] none), some (.cells [.int .i64 96, .slo 14 0 (tk1N 96 n1 cs1 (wthV (asI (nthD ax (xadd (xix 0 (xnat ↑i) 4) 1))) 1 20) (asI (nthD ax (xadd (xix 0 (xnat ↑i) 4) 2)))) 0] none), some .dead, some (.cells fs1 (some 1)), some (.cells [.int .i64 (wthV (asI (nthD ax (xadd (xix 0 (xnat ↑i) 4) 1))) 1 20), .int .u64 (asI (nthD ax (xadd (xix 0 (xnat ↑i) 4) 2)))] none), some (.cells [.int .i64 (xmn (xmx (xar .sub .i64 (xar .sub .i64 96 ↑n0) ↑n1) 0) 96), .nils] none), some (.cells [.int .i64 (wthV (asI (nthD ax (xadd (xix 0 (xnat ↑i) 4) 1))) 1 20), .int .u64 (asI (nthD ax (xadd (xix 0 (xnat ↑i) 4) 2)))] none), some (.cells (tk1C 96 n1 cs1 (wthV (asI (nthD ax (xadd (xix 0 (xnat ↑i) 4) 1))) 1 20) (asI (nthD ax (xadd (xix 0 (xnat ↑i) 4) 2)))) (some 2))] [])
      else (
       K .normal [.ptr 1 0, .slo 0 0 nx 0, .any, .int .i64 (xar .add .i64 (↑i) 1)] [some (.ro ax), some (.cells [.int .i64 96, .slo 2 0 2 0] none), some (.cells [.ptr 3 0, .ptr 7 0] (some 1)), some (.cells [.ptr 4 0, .slo 6 0 fn0 0] none), some (.cells [.int .i64 96, .slo 5 0 n0 0] none), some (.cells cs0 (some 2)), some (.cells fs0 (some 1)), some (.cells [.ptr 8 0, .slo 10 0 fn1 0] none), some (.cells [.int .i64 96, .slo 14 0 (tk1N 96 n1 cs1 (wthV (asI (nthD ax (xadd (xix 0 (xnat ↑i) 4) 1))) 1 20) (asI (nthD ax (xadd (xix 0 (xnat ↑i) 4) 2)))) 0] none), some .dead, some (.cells fs1 (some 1)), some (.cells [.int .i64 (wthV (asI (nthD ax (xadd (xix 0 (xnat ↑i) 4) 1))) 1 20), .int .u64 (asI (nthD ax (xadd (xix 0 (xnat ↑i) 4) 2)))] none), some (.cells [.int .i64 (xmn (xmx (xar .sub .i64 (xar .sub .i64 96 ↑n0) ↑n1) 0) 96), .nils] none), some (.cells [.int .i64 (wthV (asI (nthD ax (xadd (xix 0 (xnat ↑i) 4) 1))) 1 20), .int .u64 (asI (nthD ax (xadd (xix 0 (xnat ↑i) 4) 2)))] none), some (.cells (tk1C 96 n1 cs1 (wthV (asI (nthD ax (xadd (xix 0 (xnat ↑i) 4) 1))) 1 20) (asI (nthD ax (xadd (xix 0 (xnat ↑i) 4) 2)))) (some 2))] [])
      else False
      else False
      else False
      else False
      else False
      else False
      else False
      else False
      else False
      else False
      else False
      else False)
     else (
      bif xcm .lss (wthV (asI (nthD ax (xadd (xix 0 (xnat ↑i) 4) 1))) 1 20) 1 then (
       bif xle (xadd (xadd (xix 0 (xnat ↑i) 4) 2) 1) (xln ax) then
       bif isI .u64 (nthD ax (xadd (xix 0 (xnat ↑i) 4) 2)) then
       bif xcm .eql (asI (nthD ax (xadd (xix 0 (xnat ↑i) 4) 2))) (asI (nthD ax (xadd (xix 0 (xnat ↑i) 4) 2))) then
       bif xle (xadd (xadd (xix 0 (xnat ↑i) 4) 2) 1) (xln ax) then
       bif isI .u64 (nthD ax (xadd (xix 0 (xnat ↑i) 4) 2)) then
       bif xcm .eql (asI (nthD ax (xadd (xix 0 (xnat ↑i) 4) 2))) (asI (nthD ax (xadd (xix 0 (xnat ↑i) 4) 2))) then
       K .ret [.ptr 1 0, .slo 0 0 nx 0, .bool false, .int .i64 ↑i] [some (.ro ax), some (.cells [.int .i64 96, .slo 2 0 2 0] none), some (.cells [.ptr 3 0, .ptr 7 0] (some 1)), some (.cells [.ptr 4 0, .slo 6 0 fn0 0] none), some (.cells [.int .i64 96, .slo 5 0 n0 0] none), some (.cells cs0 (some 2)), some (.cells fs0 (some 1)), some (.cells [.ptr 8 0, .slo 10 0 fn1 0] none), some (.cells [.int .i64 96, .slo 9 0 n1 0] none), some (.cells cs1 (some 2)), some (.cells fs1 (some 1)), some (.cells [.int .i64 (wthV (asI (nthD ax (xadd (xix 0 (xnat ↑i) 4) 1))) 1 20), .int .u64 (asI (nthD ax (xadd (xix 0 (xnat ↑i) 4) 2)))] none), some (.cells [.int .i64 (xmn (xmx (xar .sub .i64 (xar .sub .i64 96 ↑n0) ↑n1) 0) 96), .nils] none), some (.cells [.int .i64 (wthV (asI (nthD ax (xadd (xix 0 (xnat ↑i) 4) 1))) 1 20), .int .u64 (asI (nthD ax (xadd (xix 0 (xnat ↑i) 4) 2)))] none)] []
       else False
       else False
       else False
       else False
       else False
       else False)
      else (
       bif xcm .geq (wthV (asI (nthD ax (xadd (xix 0 (xnat ↑i) 4) 1))) 1 20) 256 then (
        bif xle (xadd (xadd (xix 0 (xnat ↑i) 4) 2) 1) (xln ax) then
        bif isI .u64 (nthD ax (xadd (xix 0 (xnat ↑i) 4) 2)) then
        bif xcm .eql (asI (nthD ax (xadd (xix 0 (xnat ↑i) 4) 2))) (asI (nthD ax (xadd (xix 0 (xnat ↑i) 4) 2))) then
        bif xle (xadd (xadd (xix 0 (xnat ↑i) 4) 2) 1) (xln ax) then
        bif isI .u64 (nthD ax (xadd (xix 0 (xnat ↑i) 4) 2)) then
        bif xcm .eql (asI (nthD ax (xadd (xix 0 (xnat ↑i) 4) 2))) (asI (nthD ax (xadd (xix 0 (xnat ↑i) 4) 2))) then
        K .ret [.ptr 1 0, .slo 0 0 nx 0, .bool false, .int .i64 ↑i] [some (.ro ax), some (.cells [.int .i64 96, .slo 2 0 2 0] none), some (.cells [.ptr 3 0, .ptr 7 0] (some 1)), some (.cells [.ptr 4 0, .slo 6 0 fn0 0] none), some (.cells [.int .i64 96, .slo 5 0 n0 0] none), some (.cells cs0 (some 2)), some (.cells fs0 (some 1)), some (.cells [.ptr 8 0, .slo 10 0 fn1 0] none), some (.cells [.int .i64 96, .slo 9 0 n1 0] none), some (.cells cs1 (some 2)), some (.cells fs1 (some 1)), some (.cells [.int .i64 (wthV (asI (nthD ax (xadd (xix 0 (xnat ↑i) 4) 1))) 1 20), .int .u64 (asI (nthD ax (xadd (xix 0 (xnat ↑i) 4) 2)))] none), some (.cells [.int .i64 (xmn (xmx (xar .sub .i64 (xar .sub .i64 96 ↑n0) ↑n1) 0) 96), .nils] none), some (.cells [.int .i64 (wthV (asI (nthD ax (xadd (xix 0 (xnat ↑i) 4) 1))) 1 20), .int .u64 (asI (nthD ax (xadd (xix 0 (xnat ↑i) 4) 2)))] none)] []
        else False
        else False
        else False
        else False
        else False
        else False)
       else (
        bif xcm .geq 0 (xmn (xmx (xar .sub .i64 (xar .sub .i64 96 ↑n0) ↑n1) 0) 96) then (
         bif xle (xadd (xadd (xix 0 (xnat ↑i) 4) 2) 1) (xln ax) then
         bif isI .u64 (nthD ax (xadd (xix 0 (xnat ↑i) 4) 2)) then
         bif xcm .eql (asI (nthD ax (xadd (xix 0 (xnat ↑i) 4) 2))) (asI (nthD ax (xadd (xix 0 (xnat ↑i) 4) 2))) then
         bif xle (xadd (xadd (xix 0 (xnat ↑i) 4) 2) 1) (xln ax) then
         bif isI .u64 (nthD ax (xadd (xix 0 (xnat ↑i) 4) 2)) then
         bif xcm .eql (asI (nthD ax (xadd (xix 0 (xnat ↑i) 4) 2))) (asI (nthD ax (xadd (xix 0 (xnat ↑i) 4) 2))) then
         K .ret [.ptr 1 0, .slo 0 0 nx 0, .bool false, .int .i64 ↑i] [some (.ro ax), some (.cells [.int .i64 96, .slo 2 0 2 0] none), some (.cells [.ptr 3 0, .ptr 7 0] (some 1)), some (.cells [.ptr 4 0, .slo 6 0 fn0 0] none), some (.cells [.int .i64 96, .slo 5 0 n0 0] none), some (.cells cs0 (some 2)), some (.cells fs0 (some 1)), some (.cells [.ptr 8 0, .slo 10 0 fn1 0] none), some (.cells [.int .i64 96, .slo 9 0 n1 0] none), some (.cells cs1 (some 2)), some (.cells fs1 (some 1)), some (.cells [.int .i64 (wthV (asI (nthD ax (xadd (xix 0 (xnat ↑i) 4) 1))) 1 20), .int .u64 (asI (nthD ax (xadd (xix 0 (xnat ↑i) 4) 2)))] none), some (.cells [.int .i64 (xmn (xmx (xar .sub .i64 (xar .sub .i64 96 ↑n0) ↑n1) 0) 96), .nils] none), some (.cells [.int .i64 (wthV (asI (nthD ax (xadd (xix 0 (xnat ↑i) 4) 1))) 1 20), .int .u64 (asI (nthD ax (xadd (xix 0 (xnat ↑i) 4) 2)))] none)] []
         else False
         else False
         else False
         else False
         else False
         else False)
        else (
         bif okC cs1 n1 then
         bif xle (xadd n1 1) 1000000 then
         bif xle (xadd (xadd (xix 0 (xnat ↑i) 4) 2) 1) (xln ax) then
         bif isI .u64 (nthD ax (xadd (xix 0 (xnat ↑i) 4) 2)) then
         bif xcm .eql (asI (nthD ax (xadd (xix 0 (xnat ↑i) 4) 2))) (asI (nthD ax (xadd (xix 0 (xnat ↑i) 4) 2))) then
         bif xle (xadd (xadd (xix 0 (xnat ↑i) 4) 2) 1) (xln ax) then
         bif isI .u64 (nthD ax (xadd (xix 0 (xnat ↑i) 4) 2)) then
         bif xcm .eql (asI (nthD ax (xadd (xix 0 (xnat ↑i) 4) 2))) (asI (nthD ax (xadd (xix 0 (xnat ↑i) 4) 2))) then
         bif xcm .neq (putE 96 n1 cs1 (wthV (asI (nthD ax (xadd (xix 0 (xnat ↑i) 4) 1))) 1 20) (asI (nthD ax (xadd (xix 0 (xnat ↑i) 4) 2)))) 0 then (
          K .ret [.ptr 1 0, .slo 0 0 nx 0, .bool false, .int .i64 ↑i] [some (.ro ax), some (.cells [.int .i64 96, .slo 2 0 2 0] none), some (.cells [.ptr 3 0, .ptr 7 0] (some 1)), some (.cells [.ptr 4 0, .slo 6 0 fn0 0] none), some (.cells [.int .i64 96, .slo 5 0 n0 0] none), some (.cells cs0 (some 2)), some (.cells fs0 (some 1)), some (.cells [.ptr 8 0, .slo 10 0 fn1 0] none), some (.cells [.int .i64 96, .slo 16 0 (tk1N 96 n1 cs1 (wthV (asI (nthD ax (xadd (xix 0 (xnat ↑i) 4) 1))) 1 20) (asI (nthD ax (xadd (xix 0 (xnat ↑i) 4) 2)))) 0] none), some .dead, some (.cells fs1 (some 1)), some (.cells [.int .i64 (wthV (asI (nthD ax (xadd (xix 0 (xnat ↑i) 4) 1))) 1 20), .int .u64 (asI (nthD ax (xadd (xix 0 (xnat ↑i) 4) 2)))] none), some (.cells [.int .i64 (xmn (xmx (xar .sub .i64 (xar .sub .i64 96 ↑n0) ↑n1) 0) 96), .slo 15 0 1 0] none), some (.cells [.int .i64 (wthV (asI (nthD ax (xadd (xix 0 (xnat ↑i) 4) 1))) 1 20), .int .u64 (asI (nthD ax (xadd (xix 0 (xnat ↑i) 4) 2)))] none), some (.cells [.int .i64 (wthV (asI (nthD ax (xadd (xix 0 (xnat ↑i) 4) 1))) 1 20), .int .u64 (asI (nthD ax (xadd (xix 0 (xnat ↑i) 4) 2)))] none), some (.cells [.int .i64 (wthV (asI (nthD ax (xadd (xix 0 (xnat ↑i) 4) 1))) 1 20), .int .u64 (asI (nthD ax (xadd (xix 0 (xnat ↑i) 4) 2)))] (some 2)), some (.cells (tk1C 96 n1 cs1 (wthV (asI (nthD ax (xadd (xix 0 (xnat ↑i) 4) 1))) 1 20) (asI (nthD ax (xadd (xix 0 (xnat ↑i) 4) 2)))) (some 2))] [])
         else (
          K .normal [.ptr 1 0, .slo 0 0 nx 0, .any, .int .i64 (xar .add .i64 (↑i) 1)] [some (.ro ax), some (.cells [.int .i64 96, .slo 2 0 2 0] none), some (.cells [.ptr 3 0, .ptr 7 0] (some 1)), some (.cells [.ptr 4 0, .slo 6 0 fn0 0] none), some (.cells [.int .i64 96, .slo 5 0 n0 0] none), some (.cells cs0 (some 2)), some (.cells fs0 (some 1)), some (.cells [.ptr 8 0, .slo 10 0 fn1 0] none), some (.cells [.int .i64 96, .slo 16 0 (tk1N 96 n1 cs1 (wthV (asI (nthD ax (xadd (xix 0 (xnat ↑i) 4) 1))) 1 20) (asI (nthD ax (xadd (xix 0 (xnat ↑i) 4) 2)))) 0] none), some .dead, some (.cells fs1 (some 1)), some (.cells [.int .i64 (wthV (asI (nthD ax (xadd (xix 0 (xnat ↑i) 4) 1))) 1 20), .int .u64 (asI (nthD ax (xadd (xix 0 (xnat ↑i) 4) 2)))] none), some (.cells [.int .i64 (xmn (xmx (xar .sub .i64 (xar .sub .i64 96 ↑n0) ↑n1) 0) 96), .slo 15 0 1 0] none), some (.cells [.int .i64 (wthV (asI (nthD ax (xadd (xix 0 (xnat ↑i) 4) 1))) 1 20), .int .u64 (asI (nthD ax (xadd (xix 0 (xnat ↑i) 4) 2)))] none), some (.cells [.int .i64 (wthV (asI (nthD ax (xadd (xix 0 (xnat ↑i) 4) 1))) 1 20), .int .u64 (asI (nthD ax (xadd (xix 0 (xnat ↑i) 4) 2)))] none), some (.cells [.int .i64 (wthV (asI (nthD ax (xadd (xix 0 (xnat ↑i) 4) 1))) 1 20), .int .u64 (asI (nthD ax (xadd (xix 0 (xnat ↑i) 4) 2)))] (some 2)), some (.cells (tk1C 96 n1 cs1 (wthV (asI (nthD ax (xadd (xix 0 (xnat ↑i) 4) 1))) 1 20) (asI (nthD ax (xadd (xix 0 (xnat ↑i) 4) 2)))) (some 2))] [])
         else False
         else False
         else False
         else False
         else False
         else False
         else False
         else False))))
     else False
     else False
     else False
     else False
     else False
     else False
     else False)
    else False
    else False
    else False)
   else (
    K (.exit 0) [.ptr 1 0, .slo 0 0 nx 0, .any, .int .i64 ↑i] [some (.ro ax), some (.cells [.int .i64 96, .slo 2 0 2 0] none), some (.cells [.ptr 3 0, .ptr 7 0] (some 1)), some (.cells [.ptr 4 0, .slo 6 0 fn0 0] none), some (.cells [.int .i64 96, .slo 5 0 n0 0] none), some (.cells cs0 (some 2)), some (.cells fs0 (some 1)), some (.cells [.ptr 8 0, .slo 10 0 fn1 0] none), some (.cells [.int .i64 96, .slo 9 0 n1 0] none), some (.cells cs1 (some 2)), some (.cells fs1 (some 1))] []))
  else (
   K (.exit 0) [.ptr 1 0, .slo 0 0 nx 0, .any, .int .i64 ↑i] [some (.ro ax), some (.cells [.int .i64 96, .slo 2 0 2 0] none), some (.cells [.ptr 3 0, .ptr 7 0] (some 1)), some (.cells [.ptr 4 0, .slo 6 0 fn0 0] none), some (.cells [.int .i64 96, .slo 5 0 n0 0] none), some (.cells cs0 (some 2)), some (.cells fs0 (some 1)), some (.cells [.ptr 8 0, .slo 10 0 fn1 0] none), some (.cells [.int .i64 96, .slo 9 0 n1 0] none), some (.cells cs1 (some 2)), some (.cells fs1 (some 1))] [])) := by kernel_rfl
theorem fl2_z (nx i : Nat) (ax : List LV) (n0 fn0 : Nat) (cs0 fs0 : List LV) (n1 fn1 : Nat) (cs1 fs1 : List LV) (K : Pk) : (xsp Go.Proofs.Try.prog cxl9 100 44 ((sp Go.Proofs.Try.prog 23).drop 3) (mkTm 44 (flT nx i)) (mkS (flH2 ax n0 fn0 cs0 fs0 n1 fn1 cs1 fs1)) (vK flL K)) = (
  K .ret [.ptr 1 0, .slo 0 0 nx 0, .bool true, .int .i64 ↑i] [some (.ro ax), some (.cells [.int .i64 96, .slo 2 0 2 0] none), some (.cells [.ptr 3 0, .ptr 7 0] (some 1)), some (.cells [.ptr 4 0, .slo 6 0 fn0 0] none), some (.cells [.int .i64 96, .slo 5 0 n0 0] none), some (.cells cs0 (some 2)), some (.cells fs0 (some 1)), some (.cells [.ptr 8 0, .slo 10 0 fn1 0] none), some (.cells [.int .i64 96, .slo 9 0 n1 0] none), some (.cells cs1 (some 2)), some (.cells fs1 (some 1))] []) := by kernel_rfl
theorem fl3_b (nx i : Nat) (ax : List LV) (n0 fn0 : Nat) (cs0 fs0 : List LV) (n1 fn1 : Nat) (cs1 fs1 : List LV) (n2 fn2 : Nat) (cs2 fs2 : List LV) (K : Pk) : (xcode Go.Proofs.Try.prog cxl9 100 44 (loopOf (nthC (sp Go.Proofs.Try.prog 23) 2)) (mkTm 44 (flT nx i)) (mkS (flH3 ax n0 fn0 cs0 fs0 n1 fn1 cs1 fs1 n2 fn2 cs2 fs2)) (vK flL K)) = (
  bif xcm .lss ↑i ↑nx then (
   bif xcm .lss (↑i) 12 then (
    bif xle (xadd (xnat ↑i) 1) nx then
    bif xle (xadd (xix 0 (xnat ↑i) 4) 1) (xln ax) then
    bif isI .i64 (nthD ax (xix 0 (xnat ↑i) 4)) then
    bif xcm .eql (xar .and .i64 (asI (nthD ax (xix 0 (xnat ↑i) 4))) 3) 3 then (
     bif xle (xadd (xnat ↑i) 1) nx then
     bif xle (xadd (xadd (xix 0 (xnat ↑i) 4) 1) 1) (xln ax) then
     bif isI .i64 (nthD ax (xadd (xix 0 (xnat ↑i) 4) 1)) then
     bif xle (xadd fn2 1) 1000000 then
     bif xle (xadd 0 (xmul fn2 1)) (xln fs2) then
     K .normal [.ptr 1 0, .slo 0 0 nx 0, .any, .int .i64 (xar .add .i64 (↑i) 1)] [some (.ro ax), some (.cells [.int .i64 96, .slo 2 0 3 0] none), some (.cells [.ptr 3 0, .ptr 7 0, .ptr 11 0] (some 1)), some (.cells [.ptr 4 0, .slo 6 0 fn0 0] none), some (.cells [.int .i64 96, .slo 5 0 n0 0] none), some (.cells cs0 (some 2)), some (.cells fs0 (some 1)), some (.cells [.ptr 8 0, .slo 10 0 fn1 0] none), some (.cells [.int .i64 96, .slo 9 0 n1 0] none), some (.cells cs1 (some 2)), some (.cells fs1 (some 1)), some (.cells [.ptr 12 0, .slo 16 0 (xadd fn2 1) 0] none), some (.cells [.int .i64 96, .slo 13 0 n2 0] none), some (.cells cs2 (some 2)), some .dead, some (.cells [.int .i64 (asI (nthD ax (xadd (xix 0 (xnat ↑i) 4) 1)))] none), some (.cells (xcat (xcut fs2 0 (xmul fn2 1)) [.int .i64 (asI (nthD ax (xadd (xix 0 (xnat ↑i) 4) 1)))]) (some 1))] []
     else False
     else False
     else False
     else False
     else False)
    else (
     bif xle (xadd (xnat ↑i) 1) nx then
     bif xle (xadd (xadd (xix 0 (xnat ↑i) 4) 1) 1) (xln ax) then
     bif isI .i64 (nthD ax (xadd (xix 0 (xnat ↑i) 4) 1)) then
     bif xle (xadd (xnat ↑i) 1) nx then
     bif xle (xadd (xadd (xix 0 (xnat ↑i) 4) 2) 1) (xln ax) then
     bif isI .u64 (nthD ax (xadd (xix 0 (xnat ↑i) 4) 2)) then
     bif okC cs2 n2 then
     bif xcm .geq (fndW cs2 (wthV (asI (nthD ax (xadd (xix 0 (xnat ↑i) 4) 1))) 1 20)) 0 then (
      bif xnn (fndW cs2 (wthV (asI (nthD ax (xadd (xix 0 (xnat ↑i) 4) 1))) 1 20)) then
      bif xle (xadd (xnat (fndW cs2 (wthV (asI (nthD ax (xadd (xix 0 (xnat ↑i) 4) 1))) 1 20))) 1) n2 then
      bif xle (xadd (xadd (xix 0 (xnat (fndW cs2 (wthV (asI (nthD ax (xadd (xix 0 (xnat ↑i) 4) 1))) 1 20))) 2) 1) 1) (xln cs2) then
      bif isI .u64 (nthD cs2 (xadd (xix 0 (xnat (fndW cs2 (wthV (asI (nthD ax (xadd (xix 0 (xnat ↑i) 4) 1))) 1 20))) 2) 1)) then
      bif okC cs2 n2 then
      bif xle (xadd n2 1) 1000000 then
      bif xle (xadd (xadd (xix 0 (xnat ↑i) 4) 2) 1) (xln ax) then
      bif isI .u64 (nthD ax (xadd (xix 0 (xnat ↑i) 4) 2)) then
      bif xcm .eql (asI (nthD ax (xadd (xix 0 (xnat ↑i) 4) 2))) (asI (nthD ax (xadd (xix 0 (xnat ↑i) 4) 2))) then
      bif xle (xadd (xadd (xix 0 (xnat ↑i) 4) 2) 1) (xln ax) then
      bif isI .u64 (nthD ax (xadd (xix 0 (xnat ↑i) 4) 2)) then
      bif xcm .eql (asI (nthD ax (xadd (xix 0 (xnat ↑i) 4) 2))) (asI (nthD ax (xadd (xix 0 (xnat ↑i) 4) 2))) then
      bif xcm .neq (putE 96 n2 cs2 (wthV (asI (nthD ax (xadd (xix 0 (xnat ↑i) 4) 1))) 1 20) (asI (nthD ax (xadd (xix 0 (xnat ↑i) 4) 2)))) 0 then (
       K .ret [.ptr 1 0, .slo 0 0 nx 0, .bool false, .int .i64 ↑i] [some (.ro ax), some (.cells [.int .i64 96, .slo 2 0 3 0] none), some (.cells [.ptr 3 0, .ptr 7 0, .ptr 11 0] (some 1)), some (.cells [.ptr 4 0, .slo 6 0 fn0 0] none), some (.cells [.int .i64 96, .slo 5 0 n0 0] none), some (.cells cs0 (some 2)), some (.cells fs0 (some 1)), some (.cells [.ptr 8 0, .slo 10 0 fn1 0] none), some (.cells [.int .i64 96, .slo 9 0 n1 0] none), some (.cells cs1 (some 2)), some (.cells fs1 (some 1)), some (.cells [.ptr 12 0, .slo 14 0 fn2 0] none), some (.cells [.int .i64 96, .slo 18 0 (tk1N 96 n2 cs2 (wthV (asI (nthD ax (xadd (xix 0 (xnat ↑i) 4) 1))) 1 20) (asI (nthD ax (xadd (xix 0 (xnat ↑i) 4) 2)))) 0] none), some .dead, some (.cells fs2 (some 1)), some (.cells [.int .i64 (wthV (asI (nthD ax (xadd (xix 0 (xnat ↑i) 4) 1))) 1 20), .int .u64 (asI (nthD ax (xadd (xix 0 (xnat ↑i) 4) 2)))] none), some (.cells [.int .i64 (xmn (xmx (xar .sub .i64 (xar .sub .i64 (xar .sub .i64 96 ↑n0) ↑n1) ↑n2) 0) 96), .nils] none), some (.cells [.int .i64 (wthV (asI (nthD ax (xadd (xix 0 (xnat ↑i) 4) 1))) 1 20), .int .u64 (asI (nthD ax (xadd (xix 0 (xnat ↑i) 4) 2)))] none), some (.cells (tk1C 96 n2 cs2 (wthV (asI (nthD ax (xadd (xix 0 (xnat ↑i) 4) 1))) 1 20) (asI (nthD ax (xadd (xix 0 (xnat ↑i) 4) 2)))) (some 2))] [])
      else (
       K .normal [.ptr 1 0, .slo 0 0 nx 0, .any, .int .i64 (xar .add .i64 (↑i) 1)] [some (.ro ax), some (.cells [.int .i64 96, .slo 2 0 3 0] none), some (.cells [.ptr 3 0, .ptr 7 0, .ptr 11 0] (some 1)), some (.cells [.ptr 4 0, .slo 6 0 fn0 0] none), some (.cells [.int .i64 96, .slo 5 0 n0 0] none), some (.cells cs0 (some 2)), some (.cells fs0 (some 1)), some (.cells [.ptr 8 0, .slo 10 0 fn1 0] none), some (.cells [.int .i64 96, .slo 9 0 n1 0] none), some (.cells cs1 (some 2)), some (.cells fs1 (some 1)), some (.cells [.ptr 12 0, .slo 14 0 fn2 0] none), some (.cells [.int .i64 96, .slo 18 0 (tk1N 96 n2 cs2 (wthV (asI (nthD ax (xadd (xix 0 (xnat ↑i) 4) 1))) 1 20) (asI (nthD ax (xadd (xix 0 (xnat ↑i) 4) 2)))) 0] none), some .dead, some (.cells fs2 (some 1)), some (.cells [.int .i64 (wthV (asI (nthD ax (xadd (xix 0 (xnat ↑i) 4) 1))) 1 20), .int .u64 (asI (nthD ax (xadd (xix 0 (xnat ↑i) 4) 2)))] none), some (.cells [.int .i64 (xmn (xmx (xar .sub .i64 (xar .sub .i64 (xar .sub .i64 96 ↑n0) ↑n1) ↑n2) 0) 96), .nils] none), some (.cells [.int .i64 (wthV (asI (nthD ax (xadd (xix 0 (xnat ↑i) 4) 1))) 1 20), .int .u64 (asI (nthD ax (xadd (xix 0 (xnat ↑i) 4) 2)))] none), some (.cells (tk1C 96 n2 cs2 (wthV (asI (nthD ax (xadd (xix 0 (xnat ↑i) 4) 1))) 1 20) (asI (nthD ax (xadd (xix 0 (xnat ↑i) 4) 2)))) (some 2))] [])
      else False
      else False
      else False
      else False
      else False
      else False
      else False
      else False
      else False
      else False
      else False
      else False)
     else (
      bif xcm .lss (wthV (asI (nthD ax (xadd (xix 0 (xnat ↑i) 4) 1))) 1 20) 1 then (
       bif xle (xadd (xadd (xix 0 (xnat ↑i) 4) 2) 1) (xln ax) then
       bif isI .u64 (nthD ax (xadd (xix 0 (xnat ↑i) 4) 2)) then
       bif xcm .eql (asI (nthD ax (xadd (xix 0 (xnat ↑i) 4) 2))) (asI (nthD ax (xadd (xix 0 (xnat ↑i) 4) 2))) then
       bif xle (xadd (xadd (xix 0 (xnat ↑i) 4) 2) 1) (xln ax) then
       bif isI .u64 (nthD ax (xadd (xix 0 (xnat ↑i) 4) 2)) then
       bif xcm .eql (asI (nthD ax (xadd (xix 0 (xnat ↑i) 4) 2))) (asI (nthD ax (xadd (xix 0 (xnat ↑i) 4) 2))) then
       K .ret [.ptr 1 0, .slo 0 0 nx 0, .bool false, .int .i64 ↑i] [some (.ro ax), some (.cells [.int .i64 96, .slo 2 0 3 0] none), some (.cells [.ptr 3 0, .ptr 7 0, .ptr 11 0] (some 1)), some (.cells [.ptr 4 0, .slo 6 0 fn0 0] none), some (.cells [.int .i64 96, .slo 5 0 n0 0] none), some (.cells cs0 (some 2)), some (.cells fs0 (some 1)), some (.cells [.ptr 8 0, .slo 10 0 fn1 0] none), some (.cells [.int .i64 96, .slo 9 0 n1 0] none), some (.cells cs1 (some 2)), some (.cells fs1 (some 1)), some (.cells [.ptr 12 0, .slo 14 0 fn2 0] none), some (.cells [.int .i64 96, .slo 13 0 n2 0] none), some (.cells cs2 (some 2)), some (.cells fs2 (some 1)), some (.cells [.int .i64 (wthV (asI (nthD ax (xadd (xix 0 (xnat ↑i) 4) 1))) 1 20), .int .u64 (asI (nthD ax (xadd (xix 0 (xnat ↑i) 4) 2)))] none), some (.cells [.int .i64 (xmn (xmx (xar .sub .i64 (xar .sub .i64 (xar .sub .i64 96 ↑n0) ↑n1) ↑n2) 0) 96), .nils] none), some (.cells [.int .i64 (wthV (asI (nthD ax (xadd (xix 0 (xnat ↑i) 4) 1))) 1 20), .int .u64 (asI (nthD ax (xadd (xix 0 (xnat ↑i) 4) 2)))] none)] []
       else False
       else False
       else False
       else False
       else False
       else False)
      else (
       bif xcm .geq (wthV (asI (nthD ax (xadd (xix 0 (xnat ↑i) 4) 1))) 1 20) 256 then (
        bif xle (xadd (xadd (xix 0 (xnat ↑i) 4) 2) 1) (xln ax) then
        bif isI .u64 (nthD ax (xadd (xix 0 (xnat ↑i) 4) 2)) then
        bif xcm .eql (asI (nthD ax (xadd (xix 0 (xnat ↑i) 4) 2))) (asI (nthD ax (xadd (xix 0 (xnat ↑i) 4) 2))) then
        bif xle (xadd (xadd (xix 0 (xnat ↑i) 4) 2) 1) (xln ax) then
        bif isI .u64 (nthD ax (xadd (xix 0 (xnat ↑i) 4) 2)) then
        bif xcm .eql (asI (nthD ax (xadd (xix 0 (xnat ↑i) 4) 2))) (asI (nthD ax (xadd (xix 0 (xnat ↑i) 4) 2))) then
        K .ret [.ptr 1 0, .slo 0 0 nx 0, .bool false, .int .i64 ↑i] [some (.ro ax), some (.cells [.int .i64 96, .slo 2 0 3 0] none), some (.cells [.ptr 3 0, .ptr 7 0, .ptr 11 0] (some 1)), some (.cells [.ptr 4 0, .slo 6 0 fn0 0] none), some (.cells [.int .i64 96, .slo 5 0 n0 0] none), some (.cells cs0 (some 2)), some (.cells fs0 (some 1)), some (.cells [.ptr 8 0, .slo 10 0 fn1 0] none), some (.cells [.int .i64 96, .slo 9 0 n1 0] none), some (.cells cs1 (some 2)), some (.cells fs1 (some 1)), some (.cells [.ptr 12 0, .slo 14 0 fn2 0] none), some (.cells [.int .i64 96, .slo 13 0 n2 0] none), some (.cells cs2 (some 2)), some (.cells fs2 (some 1)), some (.cells [.int .i64 (wthV (asI (nthD ax (xadd (xix 0 (xnat ↑i) 4) 1))) 1 20), .int .u64 (asI (nthD ax (xadd (xix 0 (xnat ↑i) 4) 2)))] none), some (.cells [.int .i64 (xmn (xmx (xar .sub .i64 (xar .sub .i64 (xar .sub .i64 96 ↑n0) ↑n1) ↑n2) 0) 96), .nils] none), some (.cells [.int .i64 (wthV (asI (nthD ax (xadd (xix 0 (xnat ↑i) 4) 1))) 1 20), .int .u64 (asI (nthD ax (xadd (xix 0 (xnat ↑i) 4) 2)))] none)] []
        else False
        else False
        else False
        else False
        else False
        else False)
       else (
        bif xcm .geq 0 (xmn (xmx (xar .sub .i64 (xar .sub .i64 (xar .sub .i64 96 ↑n0) ↑n1) ↑n2) 0) 96) then (
         bif xle (xadd (xadd (xix 0 (xnat ↑i) 4) 2) 1) (xln ax) then
         bif isI .u64 (nthD ax (xadd (xix 0 (xnat ↑i) 4) 2)) then
         bif xcm .eql (asI (nthD ax (xadd (xix 0 (xnat ↑i) 4) 2))) (asI (nthD ax (xadd (xix 0 (xnat ↑i) 4) 2))) then
         bif xle (xadd (xadd (xix 0 (xnat ↑i) 4) 2) 1) (xln ax) then
         bif isI .u64 (nthD ax (xadd (xix 0 (xnat ↑i) 4) 2)) then
         bif xcm .eql (asI (nthD ax (xadd (xix 0 (xnat ↑i) 4) 2))) (asI (nthD ax (xadd (xix 0 (xnat ↑i) 4) 2))) then
         K .ret [.ptr 1 0, .slo 0 0 nx 0, .bool false, .int .i64 ↑i] [some (.ro ax), some (.cells [.int .i64 96, .slo 2 0 3 0] none), some (.cells [.ptr 3 0, .ptr 7 0, .ptr 11 0] (some 1)), some (.cells [.ptr 4 0, .slo 6 0 fn0 0] none), some (.cells [.int .i64 96, .slo 5 0 n0 0] none), some (.cells cs0 (some 2)), some (.cells fs0 (some 1)), some (.cells [.ptr 8 0, .slo 10 0 fn1 0] none), some (.cells [.int .i64 96, .slo 9 0 n1 0] none), some (.cells cs1 (some 2)), some (.cells fs1 (some 1)), some (.cells [.ptr 12 0, .slo 14 0 fn2 0] none), some (.cells [.int .i64 96, .slo 13 0 n2 0] none), some (.cells cs2 (some 2)), some (.cells fs2 (some 1)), some (.cells [.int .i64 (wthV (asI (nthD ax (xadd (xix 0 (xnat ↑i) 4) 1))) 1 20), .int .u64 (asI (nthD ax (xadd (xix 0 (xnat ↑i) 4) 2)))] none), some (.cells [.int .i64 (xmn (xmx (xar .sub .i64 (xar .sub .i64 (xar .sub .i64 96 ↑n0) ↑n1) ↑n2) 0) 96), .nils] none), some (.cells [.int .i64 (wthV (asI (nthD ax (xadd (xix 0 (xnat ↑i) 4) 1))) 1 20), .int .u64 (asI (nthD ax (xadd (xix 0 (xnat ↑i) 4) 2)))] none)] []
         else False
         else False
         else False
         else False
         else False
         else False)
        else (
         bif okC cs2 n2 then
         bif xle (xadd n2 1) 1000000 then
         bif xle (xadd (xadd (xix 0 (xnat ↑i) 4) 2) 1) (xln ax) then
         bif isI .u64 (nthD ax (xadd (xix 0 (xnat ↑i) 4) 2)) then
         bif xcm .eql (asI (nthD ax (xadd (xix 0 (xnat ↑i) 4) 2))) (asI (nthD ax (xadd (xix 0 (xnat ↑i) 4) 2))) then
         bif xle (xadd (xadd (xix 0 (xnat ↑i) 4) 2) 1) (xln ax) then
         bif isI .u64 (nthD ax (xadd (xix 0 (xnat ↑i) 4) 2)) then
         bif xcm .eql (asI (nthD ax (xadd (xix 0 (xnat ↑i) 4) 2))) (asI (nthD ax (xadd (xix 0 (xnat ↑i) 4) 2))) then
         bif xcm .neq (putE 96 n2 cs2 (wthV (asI (nthD ax (xadd (xix 0 (xnat ↑i) 4) 1))) 1 20) (asI (nthD ax (xadd (xix 0 (xnat ↑i) 4) 2)))) 0 then (
          K .ret [.ptr 1 0, .slo 0 0 nx 0, .bool false, .int .i64 ↑i] [some (.ro ax), some (.cells [.int .i64 96, .slo 2 0 3 0] none), some (.cells [.ptr 3 0, .ptr 7 0, .ptr 11 0] (some 1)), some (.cells [.ptr 4 0, .slo 6 0 fn0 0] none), some (.cells [.int .i64 96, .slo 5 0 n0 0] none), some (.cells cs0 (some 2)), some (.cells fs0 (some 1)), some (.cells [.ptr 8 0, .slo 10 0 fn1 0] none), some (.cells [.int .i64 96, .slo 9 0 n1 0] none), some (.cells cs1 (some 2)), some (.cells fs1 (some 1)), some (.cells [.ptr 12 0, .slo 14 0 fn2 0] none), some (.cells [.int .i64 96, .slo 20 0 (tk1N 96 n2 cs2 (wthV (asI (nthD ax (xadd (xix 0 (xnat ↑i) 4) 1))) 1 20) (asI (nthD ax (xadd (xix 0 (xnat ↑i) 4) 2)))) 0] none), some .dead, some (.cells fs2 (some 1)), some (.cells [.int .i64 (wthV (asI (nthD ax (xadd (xix 0 (xnat ↑i) 4) 1))) 1 20), .int .u64 (asI (nthD ax (xadd (xix 0 (xnat ↑i) 4) 2)))] none), some (.cells [.int .i64 (xmn (xmx (xar .sub .i64 (xar .sub .i64 (xar .sub .i64 96 ↑n0) ↑n1) ↑n2) 0) 96), .slo 19 0 1 0] none), some (.cells [.int .i64 (wthV (asI (nthD ax (xadd (xix 0 (xnat ↑i) 4) 1))) 1 20), .int .u64 (asI (nthD ax (xadd (xix 0 (xnat ↑i) 4) 2)))] none), some (.cells [.int .i64 (wthV (asI (nthD ax (xadd (xix 0 (xnat ↑i) 4) 1))) 1 20), .int .u64 (asI (nthD ax (xadd (xix 0 (xnat ↑i) 4) 2)))] none), some (.cells [.int .i64 (wthV (asI (nthD ax (xadd (xix 0 (xnat ↑i) 4) 1))) 1 20), .int .u64 (asI (nthD ax (xadd (xix 0 (xnat ↑i) 4) 2)))] (some 2)), some (.cells (tk1C 96 n2 cs2 (wthV (asI (nthD ax (xadd (xix 0 (xnat ↑i) 4) 1))) 1 20) (asI (nthD ax (xadd (xix 0 (xnat ↑i) 4) 2)))) (some 2))] [])
         else (
          K .normal [.ptr 1 0, .slo 0 0 nx 0, .any, .int .i64 (xar .add .i64 (↑i) 1)] [some (.ro ax), some (.cells [.int .i64 96, .slo 2 0 3 0] none), some (.cells [.ptr 3 0, .ptr 7 0, .ptr 11 0] (some 1)), some (.cells [.ptr 4 0, .slo 6 0 fn0 0] none), some (.cells [.int .i64 96, .slo 5 0 n0 0] none), some (.cells cs0 (some 2)), some (.cells fs0 (some 1)), some (.cells [.ptr 8 0, .slo 10 0 fn1 0] none), some (.cells [.int .i64 96, .slo 9 0 n1 0] none), some (.cells cs1 (some 2)), some (.cells fs1 (some 1)), some (.cells [.ptr 12 0, .slo 14 0 fn2 0] none), some (.cells [.int .i64 96, .slo 20 0 (tk1N 96 n2 cs2 (wthV (asI (nthD ax (xadd (xix 0 (xnat ↑i) 4) 1))) 1 20) (asI (nthD ax (xadd (xix 0 (xnat ↑i) 4) 2)))) 0] none), some .dead, some (.cells fs2 (some 1)), some (.cells [.int .i64 (wthV (asI (nthD ax (xadd (xix 0 (xnat ↑i) 4) 1))) 1 20), .int .u64 (asI (nthD ax (xadd (xix 0 (xnat ↑i) 4) 2)))] none), some (.cells [.int .i64 (xmn (xmx (xar .sub .i64 (xar .sub .i64 (xar .sub .i64 96 ↑n0) ↑n1) ↑n2) 0) 96), .slo 19 0 1 0] none), some (.cells [.int .i64 (wthV (asI (nthD ax (xadd (xix 0 (xnat ↑i) 4) 1))) 1 20), .int .u64 (asI (nthD ax (xadd (xix 0 (xnat ↑i) 4) 2)))] none), some (.cells [.int .i64 (wthV (asI (nthD ax (xadd (xix 0 (xnat ↑i) 4) 1))) 1 20), .int .u64 (asI (nthD ax (xadd (xix 0 (xnat ↑i) 4) 2)))] none), some (.cells [.int .i64 (wthV (asI (nthD ax (xadd (xix 0 (xnat ↑i) 4) 1))) 1 20), .int .u64 (asI (nthD ax (xadd (xix 0 (xnat ↑i) 4) 2)))] (some 2)), some (.cells (tk1C 96 n2 cs2 (wthV (asI (nthD ax (xadd (xix 0 (xnat ↑i) 4) 1))) 1 20) (asI (nthD ax (xadd (xix 0 (xnat ↑i) 4) 2)))) (some 2))] [])
         else False
         else False
         else False
         else False
         else False
         else False
         else False
         else False))))
     else False
     else False
     else False
     else False
     else False
     else False
     else False)
    else False
    else False
    else False)
   else (
    K (.exit 0) [.ptr 1 0, .slo 0 0 nx 0, .any, .int .i64 ↑i] [some (.ro ax), some (.cells [.int .i64 96, .slo 2 0 3 0] none), some (.cells [.ptr 3 0, .ptr 7 0, .ptr 11 0] (some 1)), some (.cells [.ptr 4 0, .slo 6 0 fn0 0] none), some (.cells [.int .i64 96, .slo 5 0 n0 0] none), some (.cells cs0 (some 2)), some (.cells fs0 (some 1)), some (.cells [.ptr 8 0, .slo 10 0 fn1 0] none), some (.cells [.int .i64 96, .slo 9 0 n1 0] none), some (.cells cs1 (some 2)), some (.cells fs1 (some 1)), some (.cells [.ptr 12 0, .slo 14 0 fn2 0] none), some (.cells [.int .i64 96, .slo 13 0 n2 0] none), some (.cells cs2 (some 2)), some (.cells fs2 (some 1))] []))
  else (
   K (.exit 0) [.ptr 1 0, .slo 0 0 nx 0, .any, .int .i64 ↑i] [some (.ro ax), some (.cells [.int .i64 96, .slo 2 0 3 0] none), some (.cells [.ptr 3 0, .ptr 7 0, .ptr 11 0] (some 1)), some (.cells [.ptr 4 0, .slo 6 0 fn0 0] none), some (.cells [.int .i64 96, .slo 5 0 n0 0] none), some (.cells cs0 (some 2)), some (.cells fs0 (some 1)), some (.cells [.ptr 8 0, .slo 10 0 fn1 0] none), some (.cells [.int .i64 96, .slo 9 0 n1 0] none), some (.cells cs1 (some 2)), some (.cells fs1 (some 1)), some (.cells [.ptr 12 0, .slo 14 0 fn2 0] none), some (.cells [.int .i64 96, .slo 13 0 n2 0] none), some (.cells cs2 (some 2)), some (.cells fs2 (some 1))] [])) := by kernel_rfl
theorem fl3_z (nx i : Nat) (ax : List LV) (n0 fn0 : Nat) (cs0 fs0 : List LV) (n1 fn1 : Nat) (cs1 fs1 : List LV) (n2 fn2 : Nat) (cs2 fs2 : List LV) (K : Pk) : (xsp Go.Proofs.Try.prog cxl9 100 44 ((sp Go.Proofs.Try.prog 23).drop 3) (mkTm 44 (flT nx i)) (mkS (flH3 ax n0 fn0 cs0 fs0 n1 fn1 cs1 fs1 n2 fn2 cs2 fs2)) (vK flL K)) = (
  K .ret [.ptr 1 0, .slo 0 0 nx 0, .bool true, .int .i64 ↑i] [some (.ro ax), some (.cells [.int .i64 96, .slo 2 0 3 0] none), some (.cells [.ptr 3 0, .ptr 7 0, .ptr 11 0] (some 1)), some (.cells [.ptr 4 0, .slo 6 0 fn0 0] none), some (.cells [.int .i64 96, .slo 5 0 n0 0] none), some (.cells cs0 (some 2)), some (.cells fs0 (some 1)), some (.cells [.ptr 8 0, .slo 10 0 fn1 0] none), some (.cells [.int .i64 96, .slo 9 0 n1 0] none), some (.cells cs1 (some 2)), some (.cells fs1 (some 1)), some (.cells [.ptr 12 0, .slo 14 0 fn2 0] none), some (.cells [.int .i64 96, .slo 13 0 n2 0] none), some (.cells cs2 (some 2)), some (.cells fs2 (some 1))] []) := by kernel_rfl
end
end Go.Lev
