/- ViewStale: trees -/
import Derived.Test.YtphacbdmhbbilaaCV2
import Derived.Test.YtphacbdmhbbilaaLc
import Derived.Test.YtphacbdmhbbilaaChecked
import Derived.KernelRfl

namespace Go.Lev
open Go.RowKit
set_option linter.unusedVariables false
set_option linter.unusedSimpArgs false
set_option maxRecDepth 100000
noncomputable section
def cxw : Cx := cxl [(3, runG), (23, withinG), (71, orG findG find0G), (24, placeG), (25, sameCCG), (30, cloneG 2)]
abbrev wsL : List Nat := [0, 2, 6, 7, 8, 9, 10, 11, 12]
abbrev wsT (n0 : Nat) (x : Int) (i : Nat) : List (Nat × LV) := [(0, .slo 0 0 n0 0), (2, .int .u64 x), (7, .ptr 1 0), (8, .int .i64 i)]
abbrev wsU (n0 : Nat) (x : Int) (i : Nat) : List (Nat × LV) := [(0, .slo 0 0 n0 0), (2, .int .u64 x), (7, .ptr 1 0), (8, .int .i64 i), (9, .ptr 9 0)]
abbrev wsV (n0 : Nat) (x : Int) (i : Nat) (e : Int) : List (Nat × LV) := [(0, .slo 0 0 n0 0), (2, .int .u64 x), (7, .ptr 1 0), (8, .int .i64 i), (9, .ptr 9 0), (10, .int .i64 e)]
abbrev wsW (n0 : Nat) (x : Int) (i n : Nat) (j : Int) : List (Nat × LV) := [(0, .slo 0 0 n0 0), (2, .int .u64 x), (7, .ptr 1 0), (8, .int .i64 i), (9, .ptr 9 0), (11, .slo 10 0 n 0), (12, .int .i64 j)]
abbrev wsH (va : List LV) (n : Nat) (nd : Int) (cs so : List LV) (m : Nat) (ds : List LV) : List LB := [.ro va, .cells [.slo 2 0 n 0, .sl 3 0 256 256, .int .i64 nd, .ptr 4 0] none, .cells cs (some 2), .cells so none, .cells [.int .i64 96, .sl 5 0 1 1] none, .cells [.ptr 6 0] none, .cells [.ptr 7 0, .nils] none, .cells [.int .i64 96, .slo 8 0 m 0] none, .cells ds (some 2)]
abbrev wsI (va : List LV) (n : Nat) (nd : Int) (cs so : List LV) (m : Nat) (ds : List LV) (a w : Int) : List LB := [.ro va, .cells [.slo 2 0 n 0, .sl 3 0 256 256, .int .i64 nd, .ptr 4 0] none, .cells cs (some 2), .cells so none, .cells [.int .i64 96, .sl 5 0 1 1] none, .cells [.ptr 6 0] none, .cells [.ptr 7 0, .nils] none, .cells [.int .i64 96, .slo 8 0 m 0] none, .cells ds (some 2), .cells [.int .i64 a, .int .u64 w] none]
abbrev wsJ (va : List LV) (n : Nat) (nd : Int) (cs so : List LV) (m : Nat) (ds : List LV) (a w : Int) : List LB := [.ro va, .cells [.slo 2 0 n 0, .sl 3 0 256 256, .int .i64 nd, .ptr 4 0] none, .cells cs (some 2), .cells so none, .cells [.int .i64 96, .sl 5 0 1 1] none, .cells [.ptr 6 0] none, .cells [.ptr 7 0, .nils] none, .cells [.int .i64 96, .slo 8 0 m 0] none, .cells ds (some 2), .cells [.int .i64 a, .int .u64 w] none, .cells cs (some 2)]
theorem ws_a (n0 : Nat) (at' x : Int) (va : List LV) (K : Pk) : (xsp Go.Proofs.Try.prog cxw 100 125 (seg (sp Go.Proofs.Try.prog 7) 0 7) (tm0 [.slo 0 0 n0 0, .int .u8 at', .int .u64 x]) (mkS [.ro va]) (vK wsL K)) = (
  K .normal [.slo 0 0 n0 0, .int .u64 x, .bool false, .ptr 6 0, .int .i64 0, .tup [], .tup [], .tup [], .tup []] [some (.ro va), some (.cells [.int .i64 96, .nils] none), some (.cells [.ptr 1 0, .nils] none), some (.cells [.ptr 2 0] none), some (.cells [.int .i64 96, .sl 3 0 1 1] none), some (.cells [.int .i64 0, .int .i64 0, .int .i64 0, .int .i64 0, .int .i64 0, .int .i64 0, .int .i64 0, .int .i64 0, .int .i64 0, .int .i64 0, .int .i64 0, .int .i64 0, .int .i64 0, .int .i64 0, .int .i64 0, .int .i64 0, .int .i64 0, .int .i64 0, .int .i64 0, .int .i64 0, .int .i64 0, .int .i64 0, .int .i64 0, .int .i64 0, .int .i64 0, .int .i64 0, .int .i64 0, .int .i64 0, .int .i64 0, .int .i64 0, .int .i64 0, .int .i64 0, .int .i64 0, .int .i64 0, .int .i64 0, .int .i64 0, .int .i64 0, .int .i64 0, .int .i64 0, .int .i64 0, .int .i64 0, .int .i64 0, .int .i64 0, .int .i64 0, .int .i64 0, .int .i64 0, .int .i64 0, .int .i64 0, .int .i64 0, .int .i64 0, .int .i64 0, .int .i64 0, .int .i64 0, .int .i64 0, .int .i64 0, .int .i64 0, .int .i64 0, .int .i64 0, .int .i64 0, .int .i64 0, .int .i64 0, .int .i64 0, .int .i64 0, .int .i64 0, .int .i64 0, .int .i64 0, .int .i64 0, .int .i64 0, .int .i64 0, .int .i64 0, .int .i64 0, .int .i64 0, .int .i64 0, .int .i64 0, .int .i64 0, .int .i64 0, .int .i64 0, .int .i64 0, .int .i64 0, .int .i64 0, .int .i64 0, .int .i64 0, .int .i64 0, .int .i64 0, .int .i64 0, .int .i64 0, .int .i64 0, .int .i64 0, .int .i64 0, .int .i64 0, .int .i64 0, .int .i64 0, .int .i64 0, .int .i64 0, .int .i64 0, .int .i64 0, .int .i64 0, .int .i64 0, .int .i64 0, .int .i64 0, .int .i64 0, .int .i64 0, .int .i64 0, .int .i64 0, .int .i64 0, .int .i64 0, .int .i64 0, .int .i64 0, .int .i64 0, .int .i64 0, .int .i64 0, .int .i64 0, .int .i64 0, .int .i64 0, .int .i64 0, .int .i64 0, .int .i64 0, .int .i64 0, .int .i64 0, .int .i64 0, .int .i64 0, .int .i64 0, .int .i64 0, .int .i64 0, .int .i64 0, .int .i64 0, .int .i64 0, .int .i64 0, .int .i64 0, .int .i64 0, .int .i64 0, .int .i64 0, .int .i64 0, .int .i64 0, .int .i64 0, .int .i64 0, .int .i64 0, .int .i64 0, .int .i64 0, .int .i64 0, .int .i64 0, .int .i64 0, .int .i64 0, .int .i64 0, .int .i64 0, .int .i64 0, .int .i64 0, .int .i64 0, .int .i64 0, .int .i64 0, .int .i64 0, .int .i64 0, .int .i64 0, .int .i64 0, .int .i64 0, .int .i64 0, .int .i64 0, .int .i64 0, .int .i64 0, .int .i64 0, .int .i64 0, .int .i64 0, .int .i64 0, .int .i64 0, .int .i64 0, .int .i64 0, .int .i64 0, .int .i64 0, .int .i64 0, .int .i64 0, .int .i64 0, .int .i64 0, .int .i64 0, .int .i64 0, .int .i64 0, .int .i64 0, .int .i64 0, .int .i64 0, .int .i64 0, .int .i64 0, .int .i64 0, .int .i64 0, .int .i64 0, .int .i64 0, .int .i64 0, .int .i64 0, .int .i64 0, .int .i64 0, .int .i64 0, .int .i64 0, .int .i64 0, .int .i64 0, .int .i64 0, .int .i64 0, .int .i64 0, .int .i64 0, .int .i64 0, .int .i64 0, .int .i64 0, .int .i64 0, .int .i64 0, .int .i64 0, .int .i64 0, .int .i64 0, .int .i64 0, .int .i64 0, .int .i64 0, .int .i64 0, .int .i64 0, .int .i64 0, .int .i64 0, .int .i64 0, .int .i64 0, .int .i64 0, .int .i64 0, .int .i64 0, .int .i64 0, .int .i64 0, .int .i64 0, .int .i64 0, .int .i64 0, .int .i64 0, .int .i64 0, .int .i64 0, .int .i64 0, .int .i64 0, .int .i64 0, .int .i64 0, .int .i64 0, .int .i64 0, .int .i64 0, .int .i64 0, .int .i64 0, .int .i64 0, .int .i64 0, .int .i64 0, .int .i64 0, .int .i64 0, .int .i64 0, .int .i64 0, .int .i64 0, .int .i64 0, .int .i64 0, .int .i64 0, .int .i64 0, .int .i64 0, .int .i64 0, .int .i64 0, .int .i64 0, .int .i64 0, .int .i64 0, .int .i64 0, .int .i64 0, .int .i64 0, .int .i64 0, .int .i64 0] none), some (.cells [.nils, .sl 5 0 256 256, .int .i64 0, .ptr 4 0] none)] []) := by kernel_rfl
theorem ws_b (n0 i n m : Nat) (x nd : Int) (va cs so ds : List LV) (K : Pk) : (xsp Go.Proofs.Try.prog cxw 100 125 (seg (spineL (loopOf (nthC (sp Go.Proofs.Try.prog 7) 7))) 0 2) (mkTm 125 (wsT n0 x i)) (mkS (wsH va n nd cs so m ds)) (vK wsL K)) = (
  bif xcm .lss ↑i ↑n0 then (
   bif xcm .lss (↑i) 40 then (
    K .normal [.slo 0 0 n0 0, .int .u64 x, .any, .ptr 1 0, .int .i64 ↑i, .any, .any, .any, .any] [some (.ro va), some (.cells [.slo 2 0 n 0, .sl 3 0 256 256, .int .i64 nd, .ptr 4 0] none), some (.cells cs (some 2)), some (.cells so none), some (.cells [.int .i64 96, .sl 5 0 1 1] none), some (.cells [.ptr 6 0] none), some (.cells [.ptr 7 0, .nils] none), some (.cells [.int .i64 96, .slo 8 0 m 0] none), some (.cells ds (some 2))] [])
   else (
    K (.exit 0) [.slo 0 0 n0 0, .int .u64 x, .any, .ptr 1 0, .int .i64 ↑i, .any, .any, .any, .any] [some (.ro va), some (.cells [.slo 2 0 n 0, .sl 3 0 256 256, .int .i64 nd, .ptr 4 0] none), some (.cells cs (some 2)), some (.cells so none), some (.cells [.int .i64 96, .sl 5 0 1 1] none), some (.cells [.ptr 6 0] none), some (.cells [.ptr 7 0, .nils] none), some (.cells [.int .i64 96, .slo 8 0 m 0] none), some (.cells ds (some 2))] []))
  else (
   K (.exit 0) [.slo 0 0 n0 0, .int .u64 x, .any, .ptr 1 0, .int .i64 ↑i, .any, .any, .any, .any] [some (.ro va), some (.cells [.slo 2 0 n 0, .sl 3 0 256 256, .int .i64 nd, .ptr 4 0] none), some (.cells cs (some 2)), some (.cells so none), some (.cells [.int .i64 96, .sl 5 0 1 1] none), some (.cells [.ptr 6 0] none), some (.cells [.ptr 7 0, .nils] none), some (.cells [.int .i64 96, .slo 8 0 m 0] none), some (.cells ds (some 2))] [])) := by kernel_rfl
theorem ws_c (n0 i n m : Nat) (x nd : Int) (va cs so ds : List LV) (K : Pk) : (xsp Go.Proofs.Try.prog cxw 100 125 (seg (spineL (blockIn (nthC (spineL (loopOf (nthC (sp Go.Proofs.Try.prog 7) 7))) 2))) 0 2) (mkTm 125 (wsT n0 x i)) (mkS (wsH va n nd cs so m ds)) (vK wsL K)) = (
  bif xle (xadd (xnat ↑i) 1) n0 then
  bif xle (xadd (xix 0 (xnat ↑i) 2) 2) (xln va) then
  bif isI .i64 (nthD va (xix 0 (xnat ↑i) 2)) then
  bif isI .u64 (nthD va (xadd (xix 0 (xnat ↑i) 2) 1)) then
  K .normal [.slo 0 0 n0 0, .int .u64 x, .any, .ptr 1 0, .int .i64 ↑i, .ptr 9 0, .any, .any, .any] [some (.ro va), some (.cells [.slo 2 0 n 0, .sl 3 0 256 256, .int .i64 nd, .ptr 4 0] none), some (.cells cs (some 2)), some (.cells so none), some (.cells [.int .i64 96, .sl 5 0 1 1] none), some (.cells [.ptr 6 0] none), some (.cells [.ptr 7 0, .nils] none), some (.cells [.int .i64 96, .slo 8 0 m 0] none), some (.cells ds (some 2)), some (.cells [.int .i64 (wthV (asI (nthD va (xix 0 (xnat ↑i) 2))) 1 255), .int .u64 (asI (nthD va (xadd (xix 0 (xnat ↑i) 2) 1)))] none)] []
  else False
  else False
  else False
  else False) := by kernel_rfl
theorem ws_d (n0 i n m : Nat) (x nd a w : Int) (va cs so ds : List LV) (K : Pk) : (xsp Go.Proofs.Try.prog cxw 100 125 (seg (spineL (blockIn (nthC (spineL (loopOf (nthC (sp Go.Proofs.Try.prog 7) 7))) 2))) 2 1) (mkTm 125 (wsU n0 x i)) (mkS (wsI va n nd cs so m ds a w)) (vK wsL K)) = (
  bif xcm .geq a 1 then (
   bif xnot (xcm .lss a 256) then (
    K .normal [.slo 0 0 n0 0, .int .u64 x, .any, .ptr 1 0, .int .i64 ↑i, .ptr 9 0, .int .i64 2, .any, .any] [some (.ro va), some (.cells [.slo 2 0 n 0, .sl 3 0 256 256, .int .i64 nd, .ptr 4 0] none), some (.cells cs (some 2)), some (.cells so none), some (.cells [.int .i64 96, .sl 5 0 1 1] none), some (.cells [.ptr 6 0] none), some (.cells [.ptr 7 0, .nils] none), some (.cells [.int .i64 96, .slo 8 0 m 0] none), some (.cells ds (some 2)), some (.cells [.int .i64 a, .int .u64 w] none)] [])
   else (
    bif xnn a then
    bif xle (xadd (xnat a) 1) 256 then
    bif xle (xadd (xix 0 (xnat a) 1) 1) (xln so) then
    bif isI .i64 (nthD so (xix 0 (xnat a) 1)) then
    bif xcm .gtr (asI (nthD so (xix 0 (xnat a) 1))) 0 then (
     bif xnn (xar .sub .i64 (asI (nthD so (xix 0 (xnat a) 1))) 1) then
     bif xle (xadd (xnat (xar .sub .i64 (asI (nthD so (xix 0 (xnat a) 1))) 1)) 1) n then
     bif xle (xadd (xadd (xix 0 (xnat (xar .sub .i64 (asI (nthD so (xix 0 (xnat a) 1))) 1)) 2) 1) 1) (xln cs) then
     bif isI .u64 (nthD cs (xadd (xix 0 (xnat (xar .sub .i64 (asI (nthD so (xix 0 (xnat a) 1))) 1)) 2) 1)) then
     bif xcm .neq (asI (nthD cs (xadd (xix 0 (xnat (xar .sub .i64 (asI (nthD so (xix 0 (xnat a) 1))) 1)) 2) 1))) w then (
      K .normal [.slo 0 0 n0 0, .int .u64 x, .any, .ptr 1 0, .int .i64 ↑i, .ptr 9 0, .int .i64 14, .any, .any] [some (.ro va), some (.cells [.slo 2 0 n 0, .sl 3 0 256 256, .int .i64 nd, .ptr 4 0] none), some (.cells cs (some 2)), some (.cells so none), some (.cells [.int .i64 96, .sl 5 0 1 1] none), some (.cells [.ptr 6 0] none), some (.cells [.ptr 7 0, .nils] none), some (.cells [.int .i64 96, .slo 8 0 m 0] none), some (.cells ds (some 2)), some (.cells [.int .i64 a, .int .u64 w] none)] [])
     else (
      K .normal [.slo 0 0 n0 0, .int .u64 x, .any, .ptr 1 0, .int .i64 ↑i, .ptr 9 0, .int .i64 0, .any, .any] [some (.ro va), some (.cells [.slo 2 0 n 0, .sl 3 0 256 256, .int .i64 nd, .ptr 4 0] none), some (.cells cs (some 2)), some (.cells so none), some (.cells [.int .i64 96, .sl 5 0 1 1] none), some (.cells [.ptr 6 0] none), some (.cells [.ptr 7 0, .nils] none), some (.cells [.int .i64 96, .slo 8 0 m 0] none), some (.cells ds (some 2)), some (.cells [.int .i64 a, .int .u64 w] none)] [])
     else False
     else False
     else False
     else False)
    else (
     bif xle (xadd n 1) 1000000 then
     bif xle (xadd 0 (xmul n 2)) (xln cs) then
     bif xnn a then
     bif xle (xadd (xnat a) 1) 256 then
     bif xle (xadd (xix 0 (xnat a) 1) 1) (xln so) then
     K .normal [.slo 0 0 n0 0, .int .u64 x, .any, .ptr 1 0, .int .i64 ↑i, .ptr 9 0, .int .i64 0, .any, .any] [some (.ro va), some (.cells [.slo 11 0 (xadd n 1) 0, .sl 3 0 256 256, .int .i64 nd, .ptr 4 0] none), some .dead, some (.cells (xlay so (xix 0 (xnat a) 1) [.int .i64 ↑(xadd n 1)]) none), some (.cells [.int .i64 96, .sl 5 0 1 1] none), some (.cells [.ptr 6 0] none), some (.cells [.ptr 7 0, .nils] none), some (.cells [.int .i64 96, .slo 8 0 m 0] none), some (.cells ds (some 2)), some (.cells [.int .i64 a, .int .u64 w] none), some (.cells [.int .i64 a, .int .u64 w] none), some (.cells (xcat (xcut cs 0 (xmul n 2)) [.int .i64 a, .int .u64 w]) (some 2))] []
     else False
     else False
     else False
     else False
     else False)
    else False
    else False
    else False
    else False))
  else (
   K .normal [.slo 0 0 n0 0, .int .u64 x, .any, .ptr 1 0, .int .i64 ↑i, .ptr 9 0, .int .i64 2, .any, .any] [some (.ro va), some (.cells [.slo 2 0 n 0, .sl 3 0 256 256, .int .i64 nd, .ptr 4 0] none), some (.cells cs (some 2)), some (.cells so none), some (.cells [.int .i64 96, .sl 5 0 1 1] none), some (.cells [.ptr 6 0] none), some (.cells [.ptr 7 0, .nils] none), some (.cells [.int .i64 96, .slo 8 0 m 0] none), some (.cells ds (some 2)), some (.cells [.int .i64 a, .int .u64 w] none)] [])) := by kernel_rfl
theorem ws_e (n0 i n m : Nat) (x nd a w e : Int) (va cs so ds : List LV) (K : Pk) : (xsp Go.Proofs.Try.prog cxw 100 125 (seg (spineL (blockIn (nthC (spineL (loopOf (nthC (sp Go.Proofs.Try.prog 7) 7))) 2))) 3 4) (mkTm 125 (wsV n0 x i e)) (mkS (wsI va n nd cs so m ds a w)) (vK wsL K)) = (
  bif xle n 1000000 then
  bif xeq (xln cs) (xmul n 2) then
  bif xnoid cs then
  bif okC cs n then
  bif xcm .lss (fndW cs a) 0 then (
   K .ret [.slo 0 0 n0 0, .int .u64 x, .bool false, .ptr 1 0, .int .i64 ↑i, .ptr 9 0, .int .i64 e, .slo 10 0 n 0, .int .i64 (fndW cs a)] [some (.ro va), some (.cells [.slo 2 0 n 0, .sl 3 0 256 256, .int .i64 nd, .ptr 4 0] none), some (.cells cs (some 2)), some (.cells so none), some (.cells [.int .i64 96, .sl 5 0 1 1] none), some (.cells [.ptr 6 0] none), some (.cells [.ptr 7 0, .nils] none), some (.cells [.int .i64 96, .slo 8 0 m 0] none), some (.cells ds (some 2)), some (.cells [.int .i64 a, .int .u64 w] none), some (.cells cs (some 2))] [])
  else (
   bif xcm .neq e 0 then (
    bif xcm .neq e 14 then (
     K .ret [.slo 0 0 n0 0, .int .u64 x, .bool false, .ptr 1 0, .int .i64 ↑i, .ptr 9 0, .int .i64 e, .slo 10 0 n 0, .int .i64 (fndW cs a)] [some (.ro va), some (.cells [.slo 2 0 n 0, .sl 3 0 256 256, .int .i64 nd, .ptr 4 0] none), some (.cells cs (some 2)), some (.cells so none), some (.cells [.int .i64 96, .sl 5 0 1 1] none), some (.cells [.ptr 6 0] none), some (.cells [.ptr 7 0, .nils] none), some (.cells [.int .i64 96, .slo 8 0 m 0] none), some (.cells ds (some 2)), some (.cells [.int .i64 a, .int .u64 w] none), some (.cells cs (some 2))] [])
    else (
     bif xnn (fndW cs a) then
     bif xle (xadd (xnat (fndW cs a)) 1) n then
     bif xle (xadd (xadd (xix 0 (xnat (fndW cs a)) 2) 1) 1) (xln cs) then
     bif isI .u64 (nthD cs (xadd (xix 0 (xnat (fndW cs a)) 2) 1)) then
     bif xnot (xbq (xcm .eql e 0) (xcm .eql (asI (nthD cs (xadd (xix 0 (xnat (fndW cs a)) 2) 1))) w)) then (
      K .ret [.slo 0 0 n0 0, .int .u64 x, .bool false, .ptr 1 0, .int .i64 ↑i, .ptr 9 0, .int .i64 e, .slo 10 0 n 0, .int .i64 (fndW cs a)] [some (.ro va), some (.cells [.slo 2 0 n 0, .sl 3 0 256 256, .int .i64 nd, .ptr 4 0] none), some (.cells cs (some 2)), some (.cells so none), some (.cells [.int .i64 96, .sl 5 0 1 1] none), some (.cells [.ptr 6 0] none), some (.cells [.ptr 7 0, .nils] none), some (.cells [.int .i64 96, .slo 8 0 m 0] none), some (.cells ds (some 2)), some (.cells [.int .i64 a, .int .u64 w] none), some (.cells cs (some 2))] [])
     else (
      K .normal [.slo 0 0 n0 0, .int .u64 x, .any, .ptr 1 0, .int .i64 ↑i, .ptr 9 0, .int .i64 e, .slo 10 0 n 0, .int .i64 (fndW cs a)] [some (.ro va), some (.cells [.slo 2 0 n 0, .sl 3 0 256 256, .int .i64 nd, .ptr 4 0] none), some (.cells cs (some 2)), some (.cells so none), some (.cells [.int .i64 96, .sl 5 0 1 1] none), some (.cells [.ptr 6 0] none), some (.cells [.ptr 7 0, .nils] none), some (.cells [.int .i64 96, .slo 8 0 m 0] none), some (.cells ds (some 2)), some (.cells [.int .i64 a, .int .u64 w] none), some (.cells cs (some 2))] [])
     else False
     else False
     else False
     else False))
   else (
    bif xnn (fndW cs a) then
    bif xle (xadd (xnat (fndW cs a)) 1) n then
    bif xle (xadd (xadd (xix 0 (xnat (fndW cs a)) 2) 1) 1) (xln cs) then
    bif isI .u64 (nthD cs (xadd (xix 0 (xnat (fndW cs a)) 2) 1)) then
    bif xnot (xbq (xcm .eql e 0) (xcm .eql (asI (nthD cs (xadd (xix 0 (xnat (fndW cs a)) 2) 1))) w)) then (
     K .ret [.slo 0 0 n0 0, .int .u64 x, .bool false, .ptr 1 0, .int .i64 ↑i, .ptr 9 0, .int .i64 e, .slo 10 0 n 0, .int .i64 (fndW cs a)] [some (.ro va), some (.cells [.slo 2 0 n 0, .sl 3 0 256 256, .int .i64 nd, .ptr 4 0] none), some (.cells cs (some 2)), some (.cells so none), some (.cells [.int .i64 96, .sl 5 0 1 1] none), some (.cells [.ptr 6 0] none), some (.cells [.ptr 7 0, .nils] none), some (.cells [.int .i64 96, .slo 8 0 m 0] none), some (.cells ds (some 2)), some (.cells [.int .i64 a, .int .u64 w] none), some (.cells cs (some 2))] [])
    else (
     K .normal [.slo 0 0 n0 0, .int .u64 x, .any, .ptr 1 0, .int .i64 ↑i, .ptr 9 0, .int .i64 e, .slo 10 0 n 0, .int .i64 (fndW cs a)] [some (.ro va), some (.cells [.slo 2 0 n 0, .sl 3 0 256 256, .int .i64 nd, .ptr 4 0] none), some (.cells cs (some 2)), some (.cells so none), some (.cells [.int .i64 96, .sl 5 0 1 1] none), some (.cells [.ptr 6 0] none), some (.cells [.ptr 7 0, .nils] none), some (.cells [.int .i64 96, .slo 8 0 m 0] none), some (.cells ds (some 2)), some (.cells [.int .i64 a, .int .u64 w] none), some (.cells cs (some 2))] [])
    else False
    else False
    else False
    else False))
  else False
  else False
  else False
  else False) := by kernel_rfl
theorem ws_f (n0 i n m : Nat) (x nd a w j : Int) (va cs so ds : List LV) (K : Pk) : (xsp Go.Proofs.Try.prog cxw 100 125 ((spineL (blockIn (nthC (spineL (loopOf (nthC (sp Go.Proofs.Try.prog 7) 7))) 2))).drop 7) (mkTm 125 (wsW n0 x i n j)) (mkS (wsJ va n nd cs so m ds a w)) (vK wsL K)) = (
  bif xcm .geq a 1 then (
   bif xnot (xcm .lss a 256) then (
    K .ret [.slo 0 0 n0 0, .int .u64 x, .bool false, .ptr 1 0, .int .i64 ↑i, .ptr 9 0, .any, .slo 10 0 n 0, .int .i64 j] [some (.ro va), some (.cells [.slo 2 0 n 0, .sl 3 0 256 256, .int .i64 nd, .ptr 4 0] none), some (.cells cs (some 2)), some (.cells so none), some (.cells [.int .i64 96, .sl 5 0 1 1] none), some (.cells [.ptr 6 0] none), some (.cells [.ptr 7 0, .nils] none), some (.cells [.int .i64 96, .slo 8 0 m 0] none), some (.cells ds (some 2)), some (.cells [.int .i64 a, .int .u64 w] none), some (.cells cs (some 2))] [])
   else (
    bif okC ds m then
    bif xcm .geq (fndW ds a) 0 then (
     bif xnn (fndW ds a) then
     bif xle (xadd (xnat (fndW ds a)) 1) m then
     bif xle (xadd (xadd (xix 0 (xnat (fndW ds a)) 2) 1) 1) (xln ds) then
     bif isI .u64 (nthD ds (xadd (xix 0 (xnat (fndW ds a)) 2) 1)) then
     bif xle m 1000000 then
     bif xeq (xln ds) (xmul m 2) then
     bif xnoid ds then
     bif xcm .lss a 1 then (
      K .ret [.slo 0 0 n0 0, .int .u64 x, .bool false, .ptr 1 0, .int .i64 ↑i, .ptr 9 0, .any, .slo 10 0 n 0, .int .i64 j] [some (.ro va), some (.cells [.slo 2 0 n 0, .sl 3 0 256 256, .int .i64 nd, .ptr 4 0] none), some (.cells cs (some 2)), some (.cells so none), some (.cells [.int .i64 96, .sl 5 0 1 1] none), some (.cells [.ptr 6 0] none), some (.cells [.ptr 7 0, .nils] none), some (.cells [.int .i64 96, .slo 8 0 m 0] none), some (.cells ds (some 2)), some (.cells [.int .i64 a, .int .u64 w] none), some (.cells cs (some 2)), some (.cells [.int .i64 a, .int .u64 x] none), some (.cells [.int .i64 (xmn (xmx (xar .sub .i64 96 ↑m) 0) 96), .nils] none), some (.cells [.int .i64 a, .int .u64 x] none), some (.cells ds (some 2)), some (.cells [.int .i64 96, .slo 14 0 m 0] none), some (.cells [.int .i64 a, .int .u64 x] none)] [])
     else (
      bif xcm .geq a 256 then (
       K .ret [.slo 0 0 n0 0, .int .u64 x, .bool false, .ptr 1 0, .int .i64 ↑i, .ptr 9 0, .any, .slo 10 0 n 0, .int .i64 j] [some (.ro va), some (.cells [.slo 2 0 n 0, .sl 3 0 256 256, .int .i64 nd, .ptr 4 0] none), some (.cells cs (some 2)), some (.cells so none), some (.cells [.int .i64 96, .sl 5 0 1 1] none), some (.cells [.ptr 6 0] none), some (.cells [.ptr 7 0, .nils] none), some (.cells [.int .i64 96, .slo 8 0 m 0] none), some (.cells ds (some 2)), some (.cells [.int .i64 a, .int .u64 w] none), some (.cells cs (some 2)), some (.cells [.int .i64 a, .int .u64 x] none), some (.cells [.int .i64 (xmn (xmx (xar .sub .i64 96 ↑m) 0) 96), .nils] none), some (.cells [.int .i64 a, .int .u64 x] none), some (.cells ds (some 2)), some (.cells [.int .i64 96, .slo 14 0 m 0] none), some (.cells [.int .i64 a, .int .u64 x] none)] [])
      else (
       bif okC ds m then
       bif xcm .geq (fndW ds a) 0 then (
        bif xnn (fndW ds a) then
        bif xle (xadd (xnat (fndW ds a)) 1) m then
        bif xle (xadd (xadd (xix 0 (xnat (fndW ds a)) 2) 1) 1) (xln ds) then
        bif xnn j then
        bif xle (xadd (xnat j) 1) n then
        bif xle (xadd (xadd (xix 0 (xnat j) 2) 1) 1) (xln cs) then
        bif isI .u64 (nthD cs (xadd (xix 0 (xnat j) 2) 1)) then
        bif xcm .geq a 1 then (
         bif xnot (xcm .lss a 256) then (
          K .ret [.slo 0 0 n0 0, .int .u64 x, .bool false, .ptr 1 0, .int .i64 ↑i, .ptr 9 0, .any, .slo 10 0 n 0, .int .i64 j] [some (.ro va), some (.cells [.slo 2 0 n 0, .sl 3 0 256 256, .int .i64 nd, .ptr 4 0] none), some (.cells cs (some 2)), some (.cells so none), some (.cells [.int .i64 96, .sl 5 0 1 1] none), some (.cells [.ptr 6 0] none), some (.cells [.ptr 7 0, .nils] none), some (.cells [.int .i64 96, .slo 14 0 m 0] none), some (.cells ds (some 2)), some (.cells [.int .i64 a, .int .u64 w] none), some (.cells cs (some 2)), some (.cells [.int .i64 a, .int .u64 x] none), some (.cells [.int .i64 (xmn (xmx (xar .sub .i64 96 ↑m) 0) 96), .nils] none), some (.cells [.int .i64 a, .int .u64 x] none), some (.cells (xlay ds (xadd (xix 0 (xnat (fndW ds a)) 2) 1) [.int .u64 x]) (some 2)), some (.cells [.int .i64 96, .slo 14 0 m 0] none), some (.cells [.int .i64 a, .int .u64 x] none)] [])
         else (
          bif xnn a then
          bif xle (xadd (xnat a) 1) 256 then
          bif xle (xadd (xix 0 (xnat a) 1) 1) (xln so) then
          bif isI .i64 (nthD so (xix 0 (xnat a) 1)) then
          bif xcm .gtr (asI (nthD so (xix 0 (xnat a) 1))) 0 then (
           bif xnn (xar .sub .i64 (asI (nthD so (xix 0 (xnat a) 1))) 1) then
           bif xle (xadd (xnat (xar .sub .i64 (asI (nthD so (xix 0 (xnat a) 1))) 1)) 1) n then
           bif xle (xadd (xadd (xix 0 (xnat (xar .sub .i64 (asI (nthD so (xix 0 (xnat a) 1))) 1)) 2) 1) 1) (xln cs) then
           bif isI .u64 (nthD cs (xadd (xix 0 (xnat (xar .sub .i64 (asI (nthD so (xix 0 (xnat a) 1))) 1)) 2) 1)) then
           bif xcm .neq (asI (nthD cs (xadd (xix 0 (xnat (xar .sub .i64 (asI (nthD so (xix 0 (xnat a) 1))) 1)) 2) 1))) (asI (nthD cs (xadd (xix 0 (xnat j) 2) 1))) then (
            K .ret [.slo 0 0 n0 0, .int .u64 x, .bool false, .ptr 1 0, .int .i64 ↑i, .ptr 9 0, .any, .slo 10 0 n 0, .int .i64 j] [some (.ro va), some (.cells [.slo 2 0 n 0, .sl 3 0 256 256, .int .i64 nd, .ptr 4 0] none), some (.cells cs (some 2)), some (.cells so none), some (.cells [.int .i64 96, .sl 5 0 1 1] none), some (.cells [.ptr 6 0] none), some (.cells [.ptr 7 0, .nils] none), some (.cells [.int .i64 96, .slo 14 0 m 0] none), some (.cells ds (some 2)), some (.cells [.int .i64 a, .int .u64 w] none), some (.cells cs (some 2)), some (.cells [.int .i64 a, .int .u64 x] none), some (.cells [.int .i64 (xmn (xmx (xar .sub .i64 96 ↑m) 0) 96), .nils] none), some (.cells [.int .i64 a, .int .u64 x] none), some (.cells (xlay ds (xadd (xix 0 (xnat (fndW ds a)) 2) 1) [.int .u64 x]) (some 2)), some (.cells [.int .i64 96, .slo 14 0 m 0] none), some (.cells [.int .i64 a, .int .u64 x] none)] [])
           else (
            bif xnn j then
            bif xle (xadd (xnat j) 1) n then
            bif xle (xadd (xadd (xix 0 (xnat j) 2) 1) 1) (xln cs) then
            bif isI .u64 (nthD cs (xadd (xix 0 (xnat j) 2) 1)) then
            bif xcm .geq a 1 then (
             bif xnot (xcm .lss a 256) then (
              K .ret [.slo 0 0 n0 0, .int .u64 x, .bool false, .ptr 1 0, .int .i64 ↑i, .ptr 9 0, .any, .slo 10 0 n 0, .int .i64 j] [some (.ro va), some (.cells [.slo 2 0 n 0, .sl 3 0 256 256, .int .i64 nd, .ptr 4 0] none), some (.cells cs (some 2)), some (.cells so none), some (.cells [.int .i64 96, .sl 5 0 1 1] none), some (.cells [.ptr 6 0] none), some (.cells [.ptr 7 0, .nils] none), some (.cells [.int .i64 96, .slo 14 0 m 0] none), some (.cells ds (some 2)), some (.cells [.int .i64 a, .int .u64 w] none), some (.cells cs (some 2)), some (.cells [.int .i64 a, .int .u64 x] none), some (.cells [.int .i64 (xmn (xmx (xar .sub .i64 96 ↑m) 0) 96), .nils] none), some (.cells [.int .i64 a, .int .u64 x] none), some (.cells (xlay ds (xadd (xix 0 (xnat (fndW ds a)) 2) 1) [.int .u64 x]) (some 2)), some (.cells [.int .i64 96, .slo 14 0 m 0] none), some (.cells [.int .i64 a, .int .u64 x] none)] [])
             else (
              bif xnn a then
              bif xle (xadd (xnat a) 1) 256 then
              bif xle (xadd (xix 0 (xnat a) 1) 1) (xln so) then
              bif isI .i64 (nthD so (xix 0 (xnat a) 1)) then
              bif xcm .gtr (asI (nthD so (xix 0 (xnat a) 1))) 0 then (
               bif xnn (xar .sub .i64 (asI (nthD so (xix 0 (xnat a) 1))) 1) then
               bif xle (xadd (xnat (xar .sub .i64 (asI (nthD so (xix 0 (xnat a) 1))) 1)) 1) n then
               bif xle (xadd (xadd (xix 0 (xnat (xar .sub .i64 (asI (nthD so (xix 0 (xnat a) 1))) 1)) 2) 1) 1) (xln cs) then
               bif isI .u64 (nthD cs (xadd (xix 0 (xnat (xar .sub .i64 (asI (nthD so (xix 0 (xnat a) 1))) 1)) 2) 1)) then
               bif xcm .neq (asI (nthD cs (xadd (xix 0 (xnat (xar .sub .i64 (asI (nthD so (xix 0 (xnat a) 1))) 1)) 2) 1))) (xar .add .u64 (asI (nthD cs (xadd (xix 0 (xnat j) 2) 1))) 1) then (
                bif xle n 1000000 then
                bif xeq (xln cs) (xmul n 2) then
                bif xnoid cs then
                bif okC cs n then
                bif okC cs n then
                bif xnot (sameCC n n cs cs) then (
                 K .ret [.slo 0 0 n0 0, .int .u64 x, .bool false, .ptr 1 0, .int .i64 ↑i, .ptr 9 0, .any, .slo 10 0 n 0, .int .i64 j] [some (.ro va), some (.cells [.slo 2 0 n 0, .sl 3 0 256 256, .int .i64 nd, .ptr 4 0] none), some (.cells cs (some 2)), some (.cells so none), some (.cells [.int .i64 96, .sl 5 0 1 1] none), some (.cells [.ptr 6 0] none), some (.cells [.ptr 7 0, .nils] none), some (.cells [.int .i64 96, .slo 14 0 m 0] none), some (.cells ds (some 2)), some (.cells [.int .i64 a, .int .u64 w] none), some (.cells cs (some 2)), some (.cells [.int .i64 a, .int .u64 x] none), some (.cells [.int .i64 (xmn (xmx (xar .sub .i64 96 ↑m) 0) 96), .nils] none), some (.cells [.int .i64 a, .int .u64 x] none), some (.cells (xlay ds (xadd (xix 0 (xnat (fndW ds a)) 2) 1) [.int .u64 x]) (some 2)), some (.cells [.int .i64 96, .slo 14 0 m 0] none), some (.cells [.int .i64 a, .int .u64 x] none), some (.cells cs (some 2))] [])
                else (
                 K .normal [.slo 0 0 n0 0, .int .u64 x, .any, .ptr 1 0, .int .i64 ↑i, .ptr 9 0, .any, .slo 10 0 n 0, .int .i64 j] [some (.ro va), some (.cells [.slo 2 0 n 0, .sl 3 0 256 256, .int .i64 nd, .ptr 4 0] none), some (.cells cs (some 2)), some (.cells so none), some (.cells [.int .i64 96, .sl 5 0 1 1] none), some (.cells [.ptr 6 0] none), some (.cells [.ptr 7 0, .nils] none), some (.cells [.int .i64 96, .slo 14 0 m 0] none), some (.cells ds (some 2)), some (.cells [.int .i64 a, .int .u64 w] none), some (.cells cs (some 2)), some (.cells [.int .i64 a, .int .u64 x] none), some (.cells [.int .i64 (xmn (xmx (xar .sub .i64 96 ↑m) 0) 96), .nils] none), some (.cells [.int .i64 a, .int .u64 x] none), some (.cells (xlay ds (xadd (xix 0 (xnat (fndW ds a)) 2) 1) [.int .u64 x]) (some 2)), some (.cells [.int .i64 96, .slo 14 0 m 0] none), some (.cells [.int .i64 a, .int .u64 x] none), some (.cells cs (some 2))] [])
                else False
                else False
                else False
                else False
                else False)
               else (
                K .ret [.slo 0 0 n0 0, .int .u64 x, .bool false, .ptr 1 0, .int .i64 ↑i, .ptr 9 0, .any, .slo 10 0 n 0, .int .i64 j] [some (.ro va), some (.cells [.slo 2 0 n 0, .sl 3 0 256 256, .int .i64 nd, .ptr 4 0] none), some (.cells cs (some 2)), some (.cells so none), some (.cells [.int .i64 96, .sl 5 0 1 1] none), some (.cells [.ptr 6 0] none), some (.cells [.ptr 7 0, .nils] none), some (.cells [.int .i64 96, .slo 14 0 m 0] none), some (.cells ds (some 2)), some (.cells [.int .i64 a, .int .u64 w] none), some (.cells cs (some 2)), some (.cells [.int .i64 a, .int .u64 x] none), some (.cells [.int .i64 (xmn (xmx (xar .sub .i64 96 ↑m) 0) 96), .nils] none), some (.cells [.int .i64 a, .int .u64 x] none), some (.cells (xlay ds (xadd (xix 0 (xnat (fndW ds a)) 2) 1) [.int .u64 x]) (some 2)), some (.cells [.int .i64 96, .slo 14 0 m 0] none), some (.cells [.int .i64 a, .int .u64 x] none)] [])
               else False
               else False
               else False
               else False)
              else (
               bif xle (xadd n 1) 1000000 then
               bif xle (xadd 0 (xmul n 2)) (xln cs) then
               bif xnn a then
               bif xle (xadd (xnat a) 1) 256 then
               bif xle (xadd (xix 0 (xnat a) 1) 1) (xln so) then
               K .ret [.slo 0 0 n0 0, .int .u64 x, .bool false, .ptr 1 0, .int .i64 ↑i, .ptr 9 0, .any, .slo 10 0 n 0, .int .i64 j] [some (.ro va), some (.cells [.slo 18 0 (xadd n 1) 0, .sl 3 0 256 256, .int .i64 nd, .ptr 4 0] none), some .dead, some (.cells (xlay so (xix 0 (xnat a) 1) [.int .i64 ↑(xadd n 1)]) none), some (.cells [.int .i64 96, .sl 5 0 1 1] none), some (.cells [.ptr 6 0] none), some (.cells [.ptr 7 0, .nils] none), some (.cells [.int .i64 96, .slo 14 0 m 0] none), some (.cells ds (some 2)), some (.cells [.int .i64 a, .int .u64 w] none), some (.cells cs (some 2)), some (.cells [.int .i64 a, .int .u64 x] none), some (.cells [.int .i64 (xmn (xmx (xar .sub .i64 96 ↑m) 0) 96), .nils] none), some (.cells [.int .i64 a, .int .u64 x] none), some (.cells (xlay ds (xadd (xix 0 (xnat (fndW ds a)) 2) 1) [.int .u64 x]) (some 2)), some (.cells [.int .i64 96, .slo 14 0 m 0] none), some (.cells [.int .i64 a, .int .u64 x] none), some (.cells [.int .i64 a, .int .u64 (xar .add .u64 (asI (nthD cs (xadd (xix 0 (xnat j) 2) 1))) 1)] none), some (.cells (xcat (xcut cs 0 (xmul n 2)) [.int .i64 a, .int .u64 (xar .add .u64 (asI (nthD cs (xadd (xix 0 (xnat j) 2) 1))) 1)]) (some 2))] []
               else False
               else False
               else False
               else False
               else False)
              else False
              else False
              else False
              else False))
            else (
             K .ret [.slo 0 0 n0 0, .int .u64 x, .bool false, .ptr 1 0, .int .i64 ↑i, .ptr 9 0, .any, .slo 10 0 n 0, .int .i64 j] [some (.ro va), some (.cells [.slo 2 0 n 0, .sl 3 0 256 256, .int .i64 nd, .ptr 4 0] none), some (.cells cs (some 2)), some (.cells so none), some (.cells [.int .i64 96, .sl 5 0 1 1] none), some (.cells [.ptr 6 0] none), some (.cells [.ptr 7 0, .nils] none), some (.cells [.int .i64 96, .slo 14 0 m 0] none), some (.cells ds (some 2)), some (.cells [.int .i64 a, .int .u64 w] none), some (.cells cs (some 2)), some (.cells [.int .i64 a, .int .u64 x] none), some (.cells [.int .i64 (xmn (xmx (xar .sub .i64 96 ↑m) 0) 96), .nils] none), some (.cells [.int .i64 a, .int .u64 x] none), some (.cells (xlay ds (xadd (xix 0 (xnat (fndW ds a)) 2) 1) [.int .u64 x]) (some 2)), some (.cells [.int .i64 96, .slo 14 0 m 0] none), some (.cells [.int .i64 a, .int .u64 x] none)] [])
            else False
            else False
            else False
            else False)
           else False
           else False
           else False
           else False)
          else (
           bif xle (xadd n 1) 1000000 then
           bif xle (xadd 0 (xmul n 2)) (xln cs) then
           bif xnn a then
           bif xle (xadd (xnat a) 1) 256 then
           bif xle (xadd (xix 0 (xnat a) 1) 1) (xln so) then
           bif xnn j then
           bif xle (xadd (xnat j) 1) n then
           bif xle (xadd (xadd (xix 0 (xnat j) 2) 1) 1) (xln cs) then
           bif isI .u64 (nthD cs (xadd (xix 0 (xnat j) 2) 1)) then
           bif xcm .geq a 1 then (
            bif xnot (xcm .lss a 256) then (
             K .ret [.slo 0 0 n0 0, .int .u64 x, .bool false, .ptr 1 0, .int .i64 ↑i, .ptr 9 0, .any, .slo 10 0 n 0, .int .i64 j] [some (.ro va), some (.cells [.slo 18 0 (xadd n 1) 0, .sl 3 0 256 256, .int .i64 nd, .ptr 4 0] none), some .dead, some (.cells (xlay so (xix 0 (xnat a) 1) [.int .i64 ↑(xadd n 1)]) none), some (.cells [.int .i64 96, .sl 5 0 1 1] none), some (.cells [.ptr 6 0] none), some (.cells [.ptr 7 0, .nils] none), some (.cells [.int .i64 96, .slo 14 0 m 0] none), some (.cells ds (some 2)), some (.cells [.int .i64 a, .int .u64 w] none), some (.cells cs (some 2)), some (.cells [.int .i64 a, .int .u64 x] none), some (.cells [.int .i64 (xmn (xmx (xar .sub .i64 96 ↑m) 0) 96), .nils] none), some (.cells [.int .i64 a, .int .u64 x] none), some (.cells (xlay ds (xadd (xix 0 (xnat (fndW ds a)) 2) 1) [.int .u64 x]) (some 2)), some (.cells [.int .i64 96, .slo 14 0 m 0] none), some (.cells [.int .i64 a, .int .u64 x] none), some (.cells [.int .i64 a, .int .u64 (asI (nthD cs (xadd (xix 0 (xnat j) 2) 1)))] none), some (.cells (xcat (xcut cs 0 (xmul n 2)) [.int .i64 a, .int .u64 (asI (nthD cs (xadd (xix 0 (xnat j) 2) 1)))]) (some 2))] [])
            else (
             bif xnn a then
             bif xle (xadd (xnat a) 1) 256 then
             bif xle (xadd (xix 0 (xnat a) 1) 1) (xln (xlay so (xix 0 (xnat a) 1) [.int .i64 ↑(xadd n 1)])) then
             bif isI .i64 (nthD (xlay so (xix 0 (xnat a) 1) [.int .i64 ↑(xadd n 1)]) (xix 0 (xnat a) 1)) then
             bif xcm .gtr (asI (nthD (xlay so (xix 0 (xnat a) 1) [.int .i64 ↑(xadd n 1)]) (xix 0 (xnat a) 1))) 0 then (
              bif xnn (xar .sub .i64 (asI (nthD (xlay so (xix 0 (xnat a) 1) [.int .i64 ↑(xadd n 1)]) (xix 0 (xnat a) 1))) 1) then
              bif xle (xadd (xnat (xar .sub .i64 (asI (nthD (xlay so (xix 0 (xnat a) 1) [.int .i64 ↑(xadd n 1)]) (xix 0 (xnat a) 1))) 1)) 1) (xadd n 1) then
              bif xle (xadd (xadd (xix 0 (xnat (xar .sub .i64 (asI (nthD (xlay so (xix 0 (xnat a) 1) [.int .i64 ↑(xadd n 1)]) (xix 0 (xnat a) 1))) 1)) 2) 1) 1) (xln (xcat (xcut cs 0 (xmul n 2)) [.int .i64 a, .int .u64 (asI (nthD cs (xadd (xix 0 (xnat j) 2) 1)))])) then
              bif isI .u64 (nthD (xcat (xcut cs 0 (xmul n 2)) [.int .i64 a, .int .u64 (asI (nthD cs (xadd (xix 0 (xnat j) 2) 1)))]) (xadd (xix 0 (xnat (xar .sub .i64 (asI (nthD (xlay so (xix 0 (xnat a) 1) [.int .i64 ↑(xadd n 1)]) (xix 0 (xnat a) 1))) 1)) 2) 1)) then
              bif xcm .neq (asI (nthD (xcat (xcut cs 0 (xmul n 2)) [.int .i64 a, .int .u64 (asI (nthD cs (xadd (xix 0 (xnat j) 2) 1)))]) (xadd (xix 0 (xnat (xar .sub .i64 (asI (nthD (xlay so (xix 0 (xnat a) 1) [.int .i64 ↑(xadd n 1)]) (xix 0 (xnat a) 1))) 1)) 2) 1))) (xar .add .u64 (asI (nthD cs (xadd (xix 0 (xnat j) 2) 1))) 1) then (
               bif xle (xadd n 1) 1000000 then
               bif xeq (xln (xcat (xcut cs 0 (xmul n 2)) [.int .i64 a, .int .u64 (asI (nthD cs (xadd (xix 0 (xnat j) 2) 1)))])) (xmul (xadd n 1) 2) then
               bif xnoid (xcat (xcut cs 0 (xmul n 2)) [.int .i64 a, .int .u64 (asI (nthD cs (xadd (xix 0 (xnat j) 2) 1)))]) then
               bif okC (xcat (xcut cs 0 (xmul n 2)) [.int .i64 a, .int .u64 (asI (nthD cs (xadd (xix 0 (xnat j) 2) 1)))]) (xadd n 1) then
               bif okC cs n then
               bif xnot (sameCC (xadd n 1) n (xcat (xcut cs 0 (xmul n 2)) [.int .i64 a, .int .u64 (asI (nthD cs (xadd (xix 0 (xnat j) 2) 1)))]) cs) then (
                K .ret [.slo 0 0 n0 0, .int .u64 x, .bool false, .ptr 1 0, .int .i64 ↑i, .ptr 9 0, .any, .slo 10 0 n 0, .int .i64 j] [some (.ro va), some (.cells [.slo 18 0 (xadd n 1) 0, .sl 3 0 256 256, .int .i64 nd, .ptr 4 0] none), some .dead, some (.cells (xlay so (xix 0 (xnat a) 1) [.int .i64 ↑(xadd n 1)]) none), some (.cells [.int .i64 96, .sl 5 0 1 1] none), some (.cells [.ptr 6 0] none), some (.cells [.ptr 7 0, .nils] none), some (.cells [.int .i64 96, .slo 14 0 m 0] none), some (.cells ds (some 2)), some (.cells [.int .i64 a, .int .u64 w] none), some (.cells cs (some 2)), some (.cells [.int .i64 a, .int .u64 x] none), some (.cells [.int .i64 (xmn (xmx (xar .sub .i64 96 ↑m) 0) 96), .nils] none), some (.cells [.int .i64 a, .int .u64 x] none), some (.cells (xlay ds (xadd (xix 0 (xnat (fndW ds a)) 2) 1) [.int .u64 x]) (some 2)), some (.cells [.int .i64 96, .slo 14 0 m 0] none), some (.cells [.int .i64 a, .int .u64 x] none), some (.cells [.int .i64 a, .int .u64 (asI (nthD cs (xadd (xix 0 (xnat j) 2) 1)))] none), some (.cells (xcat (xcut cs 0 (xmul n 2)) [.int .i64 a, .int .u64 (asI (nthD cs (xadd (xix 0 (xnat j) 2) 1)))]) (some 2)), some (.cells (xcat (xcut cs 0 (xmul n 2)) [.int .i64 a, .int .u64 (asI (nthD cs (xadd (xix 0 (xnat j) 2) 1)))]) (some 2))] [])
               else (
                K .normal [.slo 0 0 n0 0, .int .u64 x, .any, .ptr 1 0, .int .i64 ↑i, .ptr 9 0, .any, .slo 10 0 n 0, .int .i64 j] [some (.ro va), some (.cells [.slo 18 0 (xadd n 1) 0, .sl 3 0 256 256, .int .i64 nd, .ptr 4 0] none), some .dead, some (.cells (xlay so (xix 0 (xnat a) 1) [.int .i64 ↑(xadd n 1)]) none), some (.cells [.int .i64 96, .sl 5 0 1 1] none), some (.cells [.ptr 6 0] none), some (.cells [.ptr 7 0, .nils] none), some (.cells [.int .i64 96, .slo 14 0 m 0] none), some (.cells ds (some 2)), some (.cells [.int .i64 a, .int .u64 w] none), some (.cells cs (some 2)), some (.cells [.int .i64 a, .int .u64 x] none), some (.cells [.int .i64 (xmn (xmx (xar .sub .i64 96 ↑m) 0) 96), .nils] none), some (.cells [.int .i64 a, .int .u64 x] none), some (.cells (xlay ds (xadd (xix 0 (xnat (fndW ds a)) 2) 1) [.int .u64 x]) (some 2)), some (.cells [.int .i64 96, .slo 14 0 m 0] none), some (.cells [.int .i64 a, .int .u64 x] none), some (.cells [.int .i64 a, .int .u64 (asI (nthD cs (xadd (xix 0 (xnat j) 2) 1)))] none), some (.cells (xcat (xcut cs 0 (xmul n 2)) [.int .i64 a, .int .u64 (asI (nthD cs (xadd (xix 0 (xnat j) 2) 1)))]) (some 2)), some (.cells (xcat (xcut cs 0 (xmul n 2)) [.int .i64 a, .int .u64 (asI (nthD cs (xadd (xix 0 (xnat j) 2) 1)))]) (some 2))] [])
               else False
               else False
               else False
               else False
               else False)
              else (
               K .ret [.slo 0 0 n0 0, .int .u64 x, .bool false, .ptr 1 0, .int .i64 ↑i, .ptr 9 0, .any, .slo 10 0 n 0, .int .i64 j] [some (.ro va), some (.cells [.slo 18 0 (xadd n 1) 0, .sl 3 0 256 256, .int .i64 nd, .ptr 4 0] none), some .dead, some (.cells (xlay so (xix 0 (xnat a) 1) [.int .i64 ↑(xadd n 1)]) none), some (.cells [.int .i64 96, .sl 5 0 1 1] none), some (.cells [.ptr 6 0] none), some (.cells [.ptr 7 0, .nils] none), some (.cells [.int .i64 96, .slo 14 0 m 0] none), some (.cells ds (some 2)), some (.cells [.int .i64 a, .int .u64 w] none), some (.cells cs (some 2)), some (.cells [.int .i64 a, .int .u64 x] none), some (.cells [.int .i64 (xmn (xmx (xar .sub .i64 96 ↑m) 0) 96), .nils] none), some (.cells [.int .i64 a, .int .u64 x] none), some (.cells (xlay ds (xadd (xix 0 (xnat (fndW ds a)) 2) 1) [.int .u64 x]) (some 2)), some (.cells [.int .i64 96, .slo 14 0 m 0] none), some (.cells [.int .i64 a, .int .u64 x] none), some (.cells [.int .i64 a, .int .u64 (asI (nthD cs (xadd (xix 0 (xnat j) 2) 1)))] none), some (.cells (xcat (xcut cs 0 (xmul n 2)) [.int .i64 a, .int .u64 (asI (nthD cs (xadd (xix 0 (xnat j) 2) 1)))]) (some 2))] [])
              else False
              else False
              else False
              else False)
             else (
              bif xle (xadd (xadd n 1) 1) 1000000 then
              bif xle (xadd 0 (xmul (xadd n 1) 2)) (xln (xcat (xcut cs 0 (xmul n 2)) [.int .i64 a, .int .u64 (asI (nthD cs (xadd (xix 0 (xnat j) 2) 1)))])) then
              bif xnn a then
              bif xle (xadd (xnat a) 1) 256 then
              bif xle (xadd (xix 0 (xnat a) 1) 1) (xln (xlay so (xix 0 (xnat a) 1) [.int .i64 ↑(xadd n 1)])) then
              K .ret [.slo 0 0 n0 0, .int .u64 x, .bool false, .ptr 1 0, .int .i64 ↑i, .ptr 9 0, .any, .slo 10 0 n 0, .int .i64 j] [some (.ro va), some (.cells [.slo 20 0 (xadd (xadd n 1) 1) 0, .sl 3 0 256 256, .int .i64 nd, .ptr 4 0] none), some .dead, some (.cells (xlay (xlay so (xix 0 (xnat a) 1) [.int .i64 ↑(xadd n 1)]) (xix 0 (xnat a) 1) [.int .i64 ↑(xadd (xadd n 1) 1)]) none), some (.cells [.int .i64 96, .sl 5 0 1 1] none), some (.cells [.ptr 6 0] none), some (.cells [.ptr 7 0, .nils] none), some (.cells [.int .i64 96, .slo 14 0 m 0] none), some (.cells ds (some 2)), some (.cells [.int .i64 a, .int .u64 w] none), some (.cells cs (some 2)), some (.cells [.int .i64 a, .int .u64 x] none), some (.cells [.int .i64 (xmn (xmx (xar .sub .i64 96 ↑m) 0) 96), .nils] none), some (.cells [.int .i64 a, .int .u64 x] none), some (.cells (xlay ds (xadd (xix 0 (xnat (fndW ds a)) 2) 1) [.int .u64 x]) (some 2)), some (.cells [.int .i64 96, .slo 14 0 m 0] none), some (.cells [.int .i64 a, .int .u64 x] none), some (.cells [.int .i64 a, .int .u64 (asI (nthD cs (xadd (xix 0 (xnat j) 2) 1)))] none), some .dead, some (.cells [.int .i64 a, .int .u64 (xar .add .u64 (asI (nthD cs (xadd (xix 0 (xnat j) 2) 1))) 1)] none), some (.cells (xcat (xcut (xcat (xcut cs 0 (xmul n 2)) [.int .i64 a, .int .u64 (asI (nthD cs (xadd (xix 0 (xnat j) 2) 1)))]) 0 (xmul (xadd n 1) 2)) [.int .i64 a, .int .u64 (xar .add .u64 (asI (nthD cs (xadd (xix 0 (xnat j) 2) 1))) 1)]) (some 2))] []
              else False
              else False
              else False
              else False
              else False)
             else False
             else False
             else False
             else False))
           else (
            K .ret [.slo 0 0 n0 0, .int .u64 x, .bool false, .ptr 1 0, .int .i64 ↑i, .ptr 9 0, .any, .slo 10 0 n 0, .int .i64 j] [some (.ro va), some (.cells [.slo 18 0 (xadd n 1) 0, .sl 3 0 256 256, .int .i64 nd, .ptr 4 0] none), some .dead, some (.cells (xlay so (xix 0 (xnat a) 1) [.int .i64 ↑(xadd n 1)]) none), some (.cells [.int .i64 96, .sl 5 0 1 1] none), some (.cells [.ptr 6 0] none), some (.cells [.ptr 7 0, .nils] none), some (.cells [.int .i64 96, .slo 14 0 m 0] none), some (.cells ds (some 2)), some (.cells [.int .i64 a, .int .u64 w] none), some (.cells cs (some 2)), some (.cells [.int .i64 a, .int .u64 x] none), some (.cells [.int .i64 (xmn (xmx (xar .sub .i64 96 ↑m) 0) 96), .nils] none), some (.cells [.int .i64 a, .int .u64 x] none), some (.cells (xlay ds (xadd (xix 0 (xnat (fndW ds a)) 2) 1) [.int .u64 x]) (some 2)), some (.cells [.int .i64 96, .slo 14 0 m 0] none), some (.cells [.int .i64 a, .int .u64 x] none), some (.cells [.int .i64 a, .int .u64 (asI (nthD cs (xadd (xix 0 (xnat j) 2) 1)))] none), some (.cells (xcat (xcut cs 0 (xmul n 2)) [.int .i64 a, .int .u64 (asI (nthD cs (xadd (xix 0 (xnat j) 2) 1)))]) (some 2))] [])
           else False
           else False
           else False
           else False
           else False
           else False
           else False
           else False
           else False)
          else False
          else False
          else False
          else False))
        else (
         K .ret [.slo 0 0 n0 0, .int .u64 x, .bool false, .ptr 1 0, .int .i64 ↑i, .ptr 9 0, .any, .slo 10 0 n 0, .int .i64 j] [some (.ro va), some (.cells [.slo 2 0 n 0, .sl 3 0 256 256, .int .i64 nd, .ptr 4 0] none), some (.cells cs (some 2)), some (.cells so none), some (.cells [.int .i64 96, .sl 5 0 1 1] none), some (.cells [.ptr 6 0] none), some (.cells [.ptr 7 0, .nils] none), some (.cells [.int .i64 96, .slo 14 0 m 0] none), some (.cells ds (some 2)), some (.cells [.int .i64 a, .int .u64 w] none), some (.cells cs (some 2)), some (.cells [.int .i64 a, .int .u64 x] none), some (.cells [.int .i64 (xmn (xmx (xar .sub .i64 96 ↑m) 0) 96), .nils] none), some (.cells [.int .i64 a, .int .u64 x] none), some (.cells (xlay ds (xadd (xix 0 (xnat (fndW ds a)) 2) 1) [.int .u64 x]) (some 2)), some (.cells [.int .i64 96, .slo 14 0 m 0] none), some (.cells [.int .i64 a, .int .u64 x] none)] [])
        else False
        else False
        else False
        else False
        else False
        else False
        else False)
       else (
        bif xcm .geq (↑m) 96 then (
         K .ret [.slo 0 0 n0 0, .int .u64 x, .bool false, .ptr 1 0, .int .i64 ↑i, .ptr 9 0, .any, .slo 10 0 n 0, .int .i64 j] [some (.ro va), some (.cells [.slo 2 0 n 0, .sl 3 0 256 256, .int .i64 nd, .ptr 4 0] none), some (.cells cs (some 2)), some (.cells so none), some (.cells [.int .i64 96, .sl 5 0 1 1] none), some (.cells [.ptr 6 0] none), some (.cells [.ptr 7 0, .nils] none), some (.cells [.int .i64 96, .slo 8 0 m 0] none), some (.cells ds (some 2)), some (.cells [.int .i64 a, .int .u64 w] none), some (.cells cs (some 2)), some (.cells [.int .i64 a, .int .u64 x] none), some (.cells [.int .i64 (xmn (xmx (xar .sub .i64 96 ↑m) 0) 96), .nils] none), some (.cells [.int .i64 a, .int .u64 x] none), some (.cells ds (some 2)), some (.cells [.int .i64 96, .slo 14 0 m 0] none), some (.cells [.int .i64 a, .int .u64 x] none)] [])
        else (
         bif xle (xadd m 1) 1000000 then
         bif xle (xadd 0 (xmul m 2)) (xln ds) then
         bif xnn j then
         bif xle (xadd (xnat j) 1) n then
         bif xle (xadd (xadd (xix 0 (xnat j) 2) 1) 1) (xln cs) then
         bif isI .u64 (nthD cs (xadd (xix 0 (xnat j) 2) 1)) then
         bif xcm .geq a 1 then (
          bif xnot (xcm .lss a 256) then (
           K .ret [.slo 0 0 n0 0, .int .u64 x, .bool false, .ptr 1 0, .int .i64 ↑i, .ptr 9 0, .any, .slo 10 0 n 0, .int .i64 j] [some (.ro va), some (.cells [.slo 2 0 n 0, .sl 3 0 256 256, .int .i64 nd, .ptr 4 0] none), some (.cells cs (some 2)), some (.cells so none), some (.cells [.int .i64 96, .sl 5 0 1 1] none), some (.cells [.ptr 6 0] none), some (.cells [.ptr 7 0, .nils] none), some (.cells [.int .i64 96, .slo 18 0 (xadd m 1) 0] none), some (.cells ds (some 2)), some (.cells [.int .i64 a, .int .u64 w] none), some (.cells cs (some 2)), some (.cells [.int .i64 a, .int .u64 x] none), some (.cells [.int .i64 (xmn (xmx (xar .sub .i64 96 ↑m) 0) 96), .nils] none), some (.cells [.int .i64 a, .int .u64 x] none), some .dead, some (.cells [.int .i64 96, .slo 18 0 (xadd m 1) 0] none), some (.cells [.int .i64 a, .int .u64 x] none), some (.cells [.int .i64 a, .int .u64 x] none), some (.cells (xcat (xcut ds 0 (xmul m 2)) [.int .i64 a, .int .u64 x]) (some 2))] [])
          else (
           bif xnn a then
           bif xle (xadd (xnat a) 1) 256 then
           bif xle (xadd (xix 0 (xnat a) 1) 1) (xln so) then
           bif isI .i64 (nthD so (xix 0 (xnat a) 1)) then
           bif xcm .gtr (asI (nthD so (xix 0 (xnat a) 1))) 0 then (
            bif xnn (xar .sub .i64 (asI (nthD so (xix 0 (xnat a) 1))) 1) then
            bif xle (xadd (xnat (xar .sub .i64 (asI (nthD so (xix 0 (xnat a) 1))) 1)) 1) n then
            bif xle (xadd (xadd (xix 0 (xnat (xar .sub .i64 (asI (nthD so (xix 0 (xnat a) 1))) 1)) 2) 1) 1) (xln cs) then
            bif isI .u64 (nthD cs (xadd (xix 0 (xnat (xar .sub .i64 (asI (nthD so (xix 0 (xnat a) 1))) 1)) 2) 1)) then
            bif xcm .neq (asI (nthD cs (xadd (xix 0 (xnat (xar .sub .i64 (asI (nthD so (xix 0 (xnat a) 1))) 1)) 2) 1))) (asI (nthD cs (xadd (xix 0 (xnat j) 2) 1))) then (
             K .ret [.slo 0 0 n0 0, .int .u64 x, .bool false, .ptr 1 0, .int .i64 ↑i, .ptr 9 0, .any, .slo 10 0 n 0, .int .i64 j] [some (.ro va), some (.cells [.slo 2 0 n 0, .sl 3 0 256 256, .int .i64 nd, .ptr 4 0] none), some (.cells cs (some 2)), some (.cells so none), some (.cells [.int .i64 96, .sl 5 0 1 1] none), some (.cells [.ptr 6 0] none), some (.cells [.ptr 7 0, .nils] none), some (.cells [.int .i64 96, .slo 18 0 (xadd m 1) 0] none), some (.cells ds (some 2)), some (.cells [.int .i64 a, .int .u64 w] none), some (.cells cs (some 2)), some (.cells [.int .i64 a, .int .u64 x] none), some (.cells [.int .i64 (xmn (xmx (xar .sub .i64 96 ↑m) 0) 96), .nils] none), some (.cells [.int .i64 a, .int .u64 x] none), some .dead, some (.cells [.int .i64 96, .slo 18 0 (xadd m 1) 0] none), some (.cells [.int .i64 a, .int .u64 x] none), some (.cells [.int .i64 a, .int .u64 x] none), some (.cells (xcat (xcut ds 0 (xmul m 2)) [.int .i64 a, .int .u64 x]) (some 2))] [])
            else (
             bif xnn j then
             bif xle (xadd (xnat j) 1) n then
             bif xle (xadd (xadd (xix 0 (xnat j) 2) 1) 1) (xln cs) then
             bif isI .u64 (nthD cs (xadd (xix 0 (xnat j) 2) 1)) then
             bif xcm .geq a 1 then (
              bif xnot (xcm .lss a 256) then (
               K .ret [.slo 0 0 n0 0, .int .u64 x, .bool false, .ptr 1 0, .int .i64 ↑i, .ptr 9 0, .any, .slo 10 0 n 0, .int .i64 j] [some (.ro va), some (.cells [.slo 2 0 n 0, .sl 3 0 256 256, .int .i64 nd, .ptr 4 0] none), some (.cells cs (some 2)), some (.cells so none), some (.cells [.int .i64 96, .sl 5 0 1 1] none), some (.cells [.ptr 6 0] none), some (.cells [.ptr 7 0, .nils] none), some (.cells [.int .i64 96, .slo 18 0 (xadd m 1) 0] none), some (.cells ds (some 2)), some (.cells [.int .i64 a, .int .u64 w] none), some (.cells cs (some 2)), some (.cells [.int .i64 a, .int .u64 x] none), some (.cells [.int .i64 (xmn (xmx (xar .sub .i64 96 ↑m) 0) 96), .nils] none), some (.cells [.int .i64 a, .int .u64 x] none), some .dead, some (.cells [.int .i64 96, .slo 18 0 (xadd m 1) 0] none), some (.cells [.int .i64 a, .int .u64 x] none), some (.cells [.int .i64 a, .int .u64 x] none), some (.cells (xcat (xcut ds 0 (xmul m 2)) [.int .i64 a, .int .u64 x]) (some 2))] [])
              else (
               bif xnn a then
               bif xle (xadd (xnat a) 1) 256 then
               bif xle (xadd (xix 0 (xnat a) 1) 1) (xln so) then
               bif isI .i64 (nthD so (xix 0 (xnat a) 1)) then
               bif xcm .gtr (asI (nthD so (xix 0 (xnat a) 1))) 0 then (
                bif xnn (xar .sub .i64 (asI (nthD so (xix 0 (xnat a) 1))) 1) then
                bif xle (xadd (xnat (xar .sub .i64 (asI (nthD so (xix 0 (xnat a) 1))) 1)) 1) n then
                bif xle (xadd (xadd (xix 0 (xnat (xar .sub .i64 (asI (nthD so (xix 0 (xnat a) 1))) 1)) 2) 1) 1) (xln cs) then
                bif isI .u64 (nthD cs (xadd (xix 0 (xnat (xar .sub .i64 (asI (nthD so (xix 0 (xnat a) 1))) 1)) 2) 1)) then
                bif xcm .neq (asI (nthD cs (xadd (xix 0 (xnat (xar .sub .i64 (asI (nthD so (xix 0 (xnat a) 1))) 1)) 2) 1))) (xar .add .u64 (asI (nthD cs (xadd (xix 0 (xnat j) 2) 1))) 1) then (
                 bif xle n 1000000 then
                 bif xeq (xln cs) (xmul n 2) then
                 bif xnoid cs then
                 bif okC cs n then
                 bif okC cs n then
                 bif xnot (sameCC n n cs cs) then (
                  K .ret [.slo 0 0 n0 0, .int .u64 x, .bool false, .ptr 1 0, .int .i64 ↑i, .ptr 9 0, .any, .slo 10 0 n 0, .int .i64 j] [some (.ro va), some (.cells [.slo 2 0 n 0, .sl 3 0 256 256, .int .i64 nd, .ptr 4 0] none), some (.cells cs (some 2)), some (.cells so none), some (.cells [.int .i64 96, .sl 5 0 1 1] none), some (.cells [.ptr 6 0] none), some (.cells [.ptr 7 0, .nils] none), some (.cells [.int .i64 96, .slo 18 0 (xadd m 1) 0] none), some (.cells ds (some 2)), some (.cells [.int .i64 a, .int .u64 w] none), some (.cells cs (some 2)), some (.cells [.int .i64 a, .int .u64 x] none), some (.cells [.int .i64 (xmn (xmx (xar .sub .i64 96 ↑m) 0) 96), .nils] none), some (.cells [.int .i64 a, .int .u64 x] none), some .dead, some (.cells [.int .i64 96, .slo 18 0 (xadd m 1) 0] none), some (.cells [.int .i64 a, .int .u64 x] none), some (.cells [.int .i64 a, .int .u64 x] none), some (.cells (xcat (xcut ds 0 (xmul m 2)) [.int .i64 a, .int .u64 x]) (some 2)), some (.cells cs (some 2))] [])
                 else (
                  K .normal [.slo 0 0 n0 0, .int .u64 x, .any, .ptr 1 0, .int .i64 ↑i, .ptr 9 0, .any, .slo 10 0 n 0, .int .i64 j] [some (.ro va), some (.cells [.slo 2 0 n 0, .sl 3 0 256 256, .int .i64 nd, .ptr 4 0] none), some (.cells cs (some 2)), some (.cells so none), some (.cells [.int .i64 96, .sl 5 0 1 1] none), some (.cells [.ptr 6 0] none), some (.cells [.ptr 7 0, .nils] none), some (.cells [.int .i64 96, .slo 18 0 (xadd m 1) 0] none), some (.cells ds (some 2)), some (.cells [.int .i64 a, .int .u64 w] none), some (.cells cs (some 2)), some (.cells [.int .i64 a, .int .u64 x] none), some (.cells [.int .i64 (xmn (xmx (xar .sub .i64 96 ↑m) 0) 96), .nils] none), some (.cells [.int .i64 a, .int .u64 x] none), some .dead, some (.cells [.int .i64 96, .slo 18 0 (xadd m 1) 0] none), some (.cells [.int .i64 a, .int .u64 x] none), some (.cells [.int .i64 a, .int .u64 x] none), some (.cells (xcat (xcut ds 0 (xmul m 2)) [.int .i64 a, .int .u64 x]) (some 2)), some (.cells cs (some 2))] [])
                 else False
                 else False
                 else False
                 else False
                 else False)
                else (
                 K .ret [.slo 0 0 n0 0, .int .u64 x, .bool false, .ptr 1 0, .int .i64 ↑i, .ptr 9 0, .any, .slo 10 0 n 0, .int .i64 j] [some (.ro va), some (.cells [.slo 2 0 n 0, .sl 3 0 256 256, .int .i64 nd, .ptr 4 0] none), some (.cells cs (some 2)), some (.cells so none), some (.cells [.int .i64 96, .sl 5 0 1 1] none), some (.cells [.ptr 6 0] none), some (.cells [.ptr 7 0, .nils] none), some (.cells [.int .i64 96, .slo 18 0 (xadd m 1) 0] none), some (.cells ds (some 2)), some (.cells [.int .i64 a, .int .u64 w] none), some (.cells cs (some 2)), some (.cells [.int .i64 a, .int .u64 x] none), some (.cells [.int .i64 (xmn (xmx (xar .sub .i64 96 ↑m) 0) 96), .nils] none), some (.cells [.int .i64 a, .int .u64 x] none), some .dead, some (.cells [.int .i64 96, .slo 18 0 (xadd m 1) 0] none), some (.cells [.int .i64 a, .int .u64 x] none), some (.cells [.int .i64 a, .int .u64 x] none), some (.cells (xcat (xcut ds 0 (xmul m 2)) [.int .i64 a, .int .u64 x]) (some 2))] [])
                else False
                else False
                else False
                else False)
               else (
                bif xle (xadd n 1) 1000000 then
                bif xle (xadd 0 (xmul n 2)) (xln cs) then
                bif xnn a then
                bif xle (xadd (xnat a) 1) 256 then
                bif xle (xadd (xix 0 (xnat a) 1) 1) (xln so) then
                K .ret [.slo 0 0 n0 0, .int .u64 x, .bool false, .ptr 1 0, .int .i64 ↑i, .ptr 9 0, .any, .slo 10 0 n 0, .int .i64 j] [some (.ro va), some (.cells [.slo 20 0 (xadd n 1) 0, .sl 3 0 256 256, .int .i64 nd, .ptr 4 0] none), some .dead, some (.cells (xlay so (xix 0 (xnat a) 1) [.int .i64 ↑(xadd n 1)]) none), some (.cells [.int .i64 96, .sl 5 0 1 1] none), some (.cells [.ptr 6 0] none), some (.cells [.ptr 7 0, .nils] none), some (.cells [.int .i64 96, .slo 18 0 (xadd m 1) 0] none), some (.cells ds (some 2)), some (.cells [.int .i64 a, .int .u64 w] none), some (.cells cs (some 2)), some (.cells [.int .i64 a, .int .u64 x] none), some (.cells [.int .i64 (xmn (xmx (xar .sub .i64 96 ↑m) 0) 96), .nils] none), some (.cells [.int .i64 a, .int .u64 x] none), some .dead, some (.cells [.int .i64 96, .slo 18 0 (xadd m 1) 0] none), some (.cells [.int .i64 a, .int .u64 x] none), some (.cells [.int .i64 a, .int .u64 x] none), some (.cells (xcat (xcut ds 0 (xmul m 2)) [.int .i64 a, .int .u64 x]) (some 2)), some (.cells [.int .i64 a, .int .u64 (xar .add .u64 (asI (nthD cs (xadd (xix 0 (xnat j) 2) 1))) 1)] none), some (.cells (xcat (xcut cs 0 (xmul n 2)) [.int .i64 a, .int .u64 (xar .add .u64 (asI (nthD cs (xadd (xix 0 (xnat j) 2) 1))) 1)]) (some 2))] []
                else False
                else False
                else False
                else False
                else False)
               else False
               else False
               else False
               else False))
             else (
              K .ret [.slo 0 0 n0 0, .int .u64 x, .bool false, .ptr 1 0, .int .i64 ↑i, .ptr 9 0, .any, .slo 10 0 n 0, .int .i64 j] [some (.ro va), some (.cells [.slo 2 0 n 0, .sl 3 0 256 256, .int .i64 nd, .ptr 4 0] none), some (.cells cs (some 2)), some (.cells so none), some (.cells [.int .i64 96, .sl 5 0 1 1] none), some (.cells [.ptr 6 0] none), some (.cells [.ptr 7 0, .nils] none), some (.cells [.int .i64 96, .slo 18 0 (xadd m 1) 0] none), some (.cells ds (some 2)), some (.cells [.int .i64 a, .int .u64 w] none), some (.cells cs (some 2)), some (.cells [.int .i64 a, .int .u64 x] none), some (.cells [.int .i64 (xmn (xmx (xar .sub .i64 96 ↑m) 0) 96), .nils] none), some (.cells [.int .i64 a, .int .u64 x] none), some .dead, some (.cells [.int .i64 96, .slo 18 0 (xadd m 1) 0] none), some (.cells [.int .i64 a, .int .u64 x] none), some (.cells [.int .i64 a, .int .u64 x] none), some (.cells (xcat (xcut ds 0 (xmul m 2)) [.int .i64 a, .int .u64 x]) (some 2))] [])
             else False
             else False
             else False
             else False)
            else False
            else False
            else False
            else False)
           else (
            bif xle (xadd n 1) 1000000 then
            bif xle (xadd 0 (xmul n 2)) (xln cs) then
            bif xnn a then
            bif xle (xadd (xnat a) 1) 256 then
            bif xle (xadd (xix 0 (xnat a) 1) 1) (xln so) then
            bif xnn j then
            bif xle (xadd (xnat j) 1) n then
            bif xle (xadd (xadd (xix 0 (xnat j) 2) 1) 1) (xln cs) then
            bif isI .u64 (nthD cs (xadd (xix 0 (xnat j) 2) 1)) then
            bif xcm .geq a 1 then (
             bif xnot (xcm .lss a 256) then (
              K .ret [.slo 0 0 n0 0, .int .u64 x, .bool false, .ptr 1 0, .int .i64 ↑i, .ptr 9 0, .any, .slo 10 0 n 0, .int .i64 j] [some (.ro va), some (.cells [.slo 20 0 (xadd n 1) 0, .sl 3 0 256 256, .int .i64 nd, .ptr 4 0] none), some .dead, some (.cells (xlay so (xix 0 (xnat a) 1) [.int .i64 ↑(xadd n 1)]) none), some (.cells [.int .i64 96, .sl 5 0 1 1] none), some (.cells [.ptr 6 0] none), some (.cells [.ptr 7 0, .nils] none), some (.cells [.int .i64 96, .slo 18 0 (xadd m 1) 0] none), some (.cells ds (some 2)), some (.cells [.int .i64 a, .int .u64 w] none), some (.cells cs (some 2)), some (.cells [.int .i64 a, .int .u64 x] none), some (.cells [.int .i64 (xmn (xmx (xar .sub .i64 96 ↑m) 0) 96), .nils] none), some (.cells [.int .i64 a, .int .u64 x] none), some .dead, some (.cells [.int .i64 96, .slo 18 0 (xadd m 1) 0] none), some (.cells [.int .i64 a, .int .u64 x] none), some (.cells [.int .i64 a, .int .u64 x] none), some (.cells (xcat (xcut ds 0 (xmul m 2)) [.int .i64 a, .int .u64 x]) (some 2)), some (.cells [.int .i64 a, .int .u64 (asI (nthD cs (xadd (xix 0 (xnat j) 2) 1)))] none), some (.cells (xcat (xcut cs 0 (xmul n 2)) [.int .i64 a, .int .u64 (asI (nthD cs (xadd (xix 0 (xnat j) 2) 1)))]) (some 2))] [])
             else (
              bif xnn a then
              bif xle (xadd (xnat a) 1) 256 then
              bif xle (xadd (xix 0 (xnat a) 1) 1) (xln (xlay so (xix 0 (xnat a) 1) [.int .i64 ↑(xadd n 1)])) then
              bif isI .i64 (nthD (xlay so (xix 0 (xnat a) 1) [.int .i64 ↑(xadd n 1)]) (xix 0 (xnat a) 1)) then
              bif xcm .gtr (asI (nthD (xlay so (xix 0 (xnat a) 1) [.int .i64 ↑(xadd n 1)]) (xix 0 (xnat a) 1))) 0 then (
               bif xnn (xar .sub .i64 (asI (nthD (xlay so (xix 0 (xnat a) 1) [.int .i64 ↑(xadd n 1)]) (xix 0 (xnat a) 1))) 1) then
               bif xle (xadd (xnat (xar .sub .i64 (asI (nthD (xlay so (xix 0 (xnat a) 1) [.int .i64 ↑(xadd n 1)]) (xix 0 (xnat a) 1))) 1)) 1) (xadd n 1) then
               bif xle (xadd (xadd (xix 0 (xnat (xar .sub .i64 (asI (nthD (xlay so (xix 0 (xnat a) 1) [.int .i64 ↑(xadd n 1)]) (xix 0 (xnat a) 1))) 1)) 2) 1) 1) (xln (xcat (xcut cs 0 (xmul n 2)) [.int .i64 a, .int .u64 (asI (nthD cs (xadd (xix 0 (xnat j) 2) 1)))])) then
               bif isI .u64 (nthD (xcat (xcut cs 0 (xmul n 2)) [.int .i64 a, .int .u64 (asI (nthD cs (xadd (xix 0 (xnat j) 2) 1)))]) (xadd (xix 0 (xnat (xar .sub .i64 (asI (nthD (xlay so (xix 0 (xnat a) 1) [.int .i64 ↑(xadd n 1)]) (xix 0 (xnat a) 1))) 1)) 2) 1)) then
               bif xcm .neq (asI (nthD (xcat (xcut cs 0 (xmul n 2)) [.int .i64 a, .int .u64 (asI (nthD cs (xadd (xix 0 (xnat j) 2) 1)))]) (xadd (xix 0 (xnat (xar .sub .i64 (asI (nthD (xlay so (xix 0 (xnat a) 1) [.int .i64 ↑(xadd n 1)]) (xix 0 (xnat a) 1))) 1)) 2) 1))) (xar .add .u64 (asI (nthD cs (xadd (xix 0 (xnat j) 2) 1))) 1) then (
                bif xle (xadd n 1) 1000000 then
                bif xeq (xln (xcat (xcut cs 0 (xmul n 2)) [.int .i64 a, .int .u64 (asI (nthD cs (xadd (xix 0 (xnat j) 2) 1)))])) (xmul (xadd n 1) 2) then
                bif xnoid (xcat (xcut cs 0 (xmul n 2)) [.int .i64 a, .int .u64 (asI (nthD cs (xadd (xix 0 (xnat j) 2) 1)))]) then
                bif okC (xcat (xcut cs 0 (xmul n 2)) [.int .i64 a, .int .u64 (asI (nthD cs (xadd (xix 0 (xnat j) 2) 1)))]) (xadd n 1) then
                bif okC cs n then
                bif xnot (sameCC (xadd n 1) n (xcat (xcut cs 0 (xmul n 2)) [.int .i64 a, .int .u64 (asI (nthD cs (xadd (xix 0 (xnat j) 2) 1)))]) cs) then (
                 K .ret [.slo 0 0 n0 0, .int .u64 x, .bool false, .ptr 1 0, .int .i64 ↑i, .ptr 9 0, .any, .slo 10 0 n 0, .int .i64 j] [some (.ro va), some (.cells [.slo 20 0 (xadd n 1) 0, .sl 3 0 256 256, .int .i64 nd, .ptr 4 0] none), some .dead, some (.cells (xlay so (xix 0 (xnat a) 1) [.int .i64 ↑(xadd n 1)]) none), some (.cells [.int .i64 96, .sl 5 0 1 1] none), some (.cells [.ptr 6 0] none), some (.cells [.ptr 7 0, .nils] none), some (.cells [.int .i64 96, .slo 18 0 (xadd m 1) 0] none), some (.cells ds (some 2)), some (.cells [.int .i64 a, .int .u64 w] none), some (.cells cs (some 2)), some (.cells [.int .i64 a, .int .u64 x] none), some (.cells [.int .i64 (xmn (xmx (xar .sub .i64 96 ↑m) 0) 96), .nils] none), some (.cells [.int .i64 a, .int .u64 x] none), some .dead, some (.cells [.int .i64 96, .slo 18 0 (xadd m 1) 0] none), some (.cells [.int .i64 a, .int .u64 x] none), some (.cells [.int .i64 a, .int .u64 x] none), some (.cells (xcat (xcut ds 0 (xmul m 2)) [.int .i64 a, .int .u64 x]) (some 2)), some (.cells [.int .i64 a, .int .u64 (asI (nthD cs (xadd (xix 0 (xnat j) 2) 1)))] none), some (.cells (xcat (xcut cs 0 (xmul n 2)) [.int .i64 a, .int .u64 (asI (nthD cs (xadd (xix 0 (xnat j) 2) 1)))]) (some 2)), some (.cells (xcat (xcut cs 0 (xmul n 2)) [.int .i64 a, .int .u64 (asI (nthD cs (xadd (xix 0 (xnat j) 2) 1)))]) (some 2))] [])
                else (
                 K .normal [.slo 0 0 n0 0, .int .u64 x, .any, .ptr 1 0, .int .i64 ↑i, .ptr 9 0, .any, .slo 10 0 n 0, .int .i64 j] [some (.ro va), some (.cells [.slo 20 0 (xadd n 1) 0, .sl 3 0 256 256, .int .i64 nd, .ptr 4 0] none), some .dead, some (.cells (xlay so (xix 0 (xnat a) 1) [.int .i64 ↑(xadd n 1)]) none), some (.cells [.int .i64 96, .sl 5 0 1 1] none), some (.cells [.ptr 6 0] none), some (.cells [.ptr 7 0, .nils] none), some (.cells [.int .i64 96, .slo 18 0 (xadd m 1) 0] none), some (.cells ds (some 2)), some (.cells [.int .i64 a, .int .u64 w] none), some (.cells cs (some 2)), some (.cells [.int .i64 a, .int .u64 x] none), some (.cells [.int .i64 (xmn (xmx (xar .sub .i64 96 ↑m) 0) 96), .nils] none), some (.cells [.int .i64 a, .int .u64 x] none), some .dead, some (.cells [.int .i64 96, .slo 18 0 (xadd m 1) 0] none), some (.cells [.int .i64 a, .int .u64 x] none), some (.cells [.int .i64 a, .int .u64 x] none), some (.cells (xcat (xcut ds 0 (xmul m 2)) [.int .i64 a, .int .u64 x]) (some 2)), some (.cells [.int .i64 a, .int .u64 (asI (nthD cs (xadd (xix 0 (xnat j) 2) 1)))] none), some (.cells (xcat (xcut cs 0 (xmul n 2)) [.int .i64 a, .int .u64 (asI (nthD cs (xadd (xix 0 (xnat j) 2) 1)))]) (some 2)), some (.cells (xcat (xcut cs 0 (xmul n 2)) [.int .i64 a, .int .u64 (asI (nthD cs (xadd (xix 0 (xnat j) 2) 1)))]) (some 2))] [])
                else False
                else False
                else False
                else False
                else False)
               else (
                K .ret [.slo 0 0 n0 0, .int .u64 x, .bool false, .ptr 1 0, .int .i64 ↑i, .ptr 9 0, .any, .slo 10 0 n 0, .int .i64 j] [some (.ro va), some (.cells [.slo 20 0 (xadd n 1) 0, .sl 3 0 256 256, .int .i64 nd, .ptr 4 0] none), some .dead, some (.cells (xlay so (xix 0 (xnat a) 1) [.int .i64 ↑(xadd n 1)]) none), some (.cells [.int .i64 96, .sl 5 0 1 1] none), some (.cells [.ptr 6 0] none), some (.cells [.ptr 7 0, .nils] none), some (.cells [.int .i64 96, .slo 18 0 (xadd m 1) 0] none), some (.cells ds (some 2)), some (.cells [.int .i64 a, .int .u64 w] none), some (.cells cs (some 2)), some (.cells [.int .i64 a, .int .u64 x] none), some (.cells [.int .i64 (xmn (xmx (xar .sub .i64 96 ↑m) 0) 96), .nils] none), some (.cells [.int .i64 a, .int .u64 x] none), some .dead, some (.cells [.int .i64 96, .slo 18 0 (xadd m 1) 0] none), some (.cells [.int .i64 a, .int .u64 x] none), some (.cells [.int .i64 a, .int .u64 x] none), some (.cells (xcat (xcut ds 0 (xmul m 2)) [.int .i64 a, .int .u64 x]) (some 2)), some (.cells [.int .i64 a, .int .u64 (asI (nthD cs (xadd (xix 0 (xnat j) 2) 1)))] none), some (.cells (xcat (xcut cs 0 (xmul n 2)) [.int .i64 a, .int .u64 (asI (nthD cs (xadd (xix 0 (xnat j) 2) 1)))]) (some 2))] [])
               else False
               else False
               else False
               else False)
              else (
               bif xle (xadd (xadd n 1) 1) 1000000 then
               bif xle (xadd 0 (xmul (xadd n 1) 2)) (xln (xcat (xcut cs 0 (xmul n 2)) [.int .i64 a, .int .u64 (asI (nthD cs (xadd (xix 0 (xnat j) 2) 1)))])) then
               bif xnn a then
               bif xle (xadd (xnat a) 1) 256 then
               bif xle (xadd (xix 0 (xnat a) 1) 1) (xln (xlay so (xix 0 (xnat a) 1) [.int .i64 ↑(xadd n 1)])) then
               K .ret [.slo 0 0 n0 0, .int .u64 x, .bool false, .ptr 1 0, .int .i64 ↑i, .ptr 9 0, .any, .slo 10 0 n 0, .int .i64 j] [some (.ro va), some (.cells [.slo 22 0 (xadd (xadd n 1) 1) 0, .sl 3 0 256 256, .int .i64 nd, .ptr 4 0] none), some .dead, some (.cells (xlay (xlay so (xix 0 (xnat a) 1) [.int .i64 ↑(xadd n 1)]) (xix 0 (xnat a) 1) [.int .i64 ↑(xadd (xadd n 1) 1)]) none), some (.cells [.int .i64 96, .sl 5 0 1 1] none), some (.cells [.ptr 6 0] none), some (.cells [.ptr 7 0, .nils] none), some (.cells [.int .i64 96, .slo 18 0 (xadd m 1) 0] none), some (.cells ds (some 2)), some (.cells [.int .i64 a, .int .u64 w] none), some (.cells cs (some 2)), some (.cells [.int .i64 a, .int .u64 x] none), some (.cells [.int .i64 (xmn (xmx (xar .sub .i64 96 ↑m) 0) 96), .nils] none), some (.cells [.int .i64 a, .int .u64 x] none), some .dead, some (.cells [.int .i64 96, .slo 18 0 (xadd m 1) 0] none), some (.cells [.int .i64 a, .int .u64 x] none), some (.cells [.int .i64 a, .int .u64 x] none), some (.cells (xcat (xcut ds 0 (xmul m 2)) [.int .i64 a, .int .u64 x]) (some 2)), some (.cells [.int .i64 a, .int .u64 (asI (nthD cs (xadd (xix 0 (xnat j) 2) 1)))] none), some .dead, some (.cells [.int .i64 a, .int .u64 (xar .add .u64 (asI (nthD cs (xadd (xix 0 (xnat j) 2) 1))) 1)] none), some (.cells (xcat (xcut (xcat (xcut cs 0 (xmul n 2)) [.int .i64 a, .int .u64 (asI (nthD cs (xadd (xix 0 (xnat j) 2) 1)))]) 0 (xmul (xadd n 1) 2)) [.int .i64 a, .int .u64 (xar .add .u64 (asI (nthD cs (xadd (xix 0 (xnat j) 2) 1))) 1)]) (some 2))] []
               else False
               else False
               else False
               else False
               else False)
              else False
              else False
              else False
              else False))
            else (
             K .ret [.slo 0 0 n0 0, .int .u64 x, .bool false, .ptr 1 0, .int .i64 ↑i, .ptr 9 0, .any, .slo 10 0 n 0, .int .i64 j] [some (.ro va), some (.cells [.slo 20 0 (xadd n 1) 0, .sl 3 0 256 256, .int .i64 nd, .ptr 4 0] none), some .dead, some (.cells (xlay so (xix 0 (xnat a) 1) [.int .i64 ↑(xadd n 1)]) none), some (.cells [.int .i64 96, .sl 5 0 1 1] none), some (.cells [.ptr 6 0] none), some (.cells [.ptr 7 0, .nils] none), some (.cells [.int .i64 96, .slo 18 0 (xadd m 1) 0] none), some (.cells ds (some 2)), some (.cells [.int .i64 a, .int .u64 w] none), some (.cells cs (some 2)), some (.cells [.int .i64 a, .int .u64 x] none), some (.cells [.int .i64 (xmn (xmx (xar .sub .i64 96 ↑m) 0) 96), .nils] none), some (.cells [.int .i64 a, .int .u64 x] none), some .dead, some (.cells [.int .i64 96, .slo 18 0 (xadd m 1) 0] none), some (.cells [.int .i64 a, .int .u64 x] none), some (.cells [.int .i64 a, .int .u64 x] none), some (.cells (xcat (xcut ds 0 (xmul m 2)) [.int .i64 a, .int .u64 x]) (some 2)), some (.cells [.int .i64 a, .int .u64 (asI (nthD cs (xadd (xix 0 (xnat j) 2) 1)))] none), some (.cells (xcat (xcut cs 0 (xmul n 2)) [.int .i64 a, .int .u64 (asI (nthD cs (xadd (xix 0 (xnat j) 2) 1)))]) (some 2))] [])
            else False
            else False
            else False
            else False
            else False
            else False
            else False
            else False
            else False)
           else False
           else False
           else False
           else False))
         else (
          K .ret [.slo 0 0 n0 0, .int .u64 x, .bool false, .ptr 1 0, .int .i64 ↑i, .ptr 9 0, .any, .slo 10 0 n 0, .int .i64 j] [some (.ro va), some (.cells [.slo 2 0 n 0, .sl 3 0 256 256, .int .i64 nd, .ptr 4 0] none), some (.cells cs (some 2)), some (.cells so none), some (.cells [.int .i64 96, .sl 5 0 1 1] none), some (.cells [.ptr 6 0] none), some (.cells [.ptr 7 0, .nils] none), some (.cells [.int .i64 96, .slo 18 0 (xadd m 1) 0] none), some (.cells ds (some 2)), some (.cells [.int .i64 a, .int .u64 w] none), some (.cells cs (some 2)), some (.cells [.int .i64 a, .int .u64 x] none), some (.cells [.int .i64 (xmn (xmx (xar .sub .i64 96 ↑m) 0) 96), .nils] none), some (.cells [.int .i64 a, .int .u64 x] none), some .dead, some (.cells [.int .i64 96, .slo 18 0 (xadd m 1) 0] none), some (.cells [.int .i64 a, .int .u64 x] none), some (.cells [.int .i64 a, .int .u64 x] none), some (.cells (xcat (xcut ds 0 (xmul m 2)) [.int .i64 a, .int .u64 x]) (some 2))] [])
         else False
         else False
         else False
         else False
         else False
         else False))
       else False))
     else False
     else False
     else False
     else False
     else False
     else False
     else False)
    else (
     bif xcm .lss a 1 then (
      K .ret [.slo 0 0 n0 0, .int .u64 x, .bool false, .ptr 1 0, .int .i64 ↑i, .ptr 9 0, .any, .slo 10 0 n 0, .int .i64 j] [some (.ro va), some (.cells [.slo 2 0 n 0, .sl 3 0 256 256, .int .i64 nd, .ptr 4 0] none), some (.cells cs (some 2)), some (.cells so none), some (.cells [.int .i64 96, .sl 5 0 1 1] none), some (.cells [.ptr 6 0] none), some (.cells [.ptr 7 0, .nils] none), some (.cells [.int .i64 96, .slo 8 0 m 0] none), some (.cells ds (some 2)), some (.cells [.int .i64 a, .int .u64 w] none), some (.cells cs (some 2)), some (.cells [.int .i64 a, .int .u64 x] none), some (.cells [.int .i64 (xmn (xmx (xar .sub .i64 96 ↑m) 0) 96), .nils] none), some (.cells [.int .i64 a, .int .u64 x] none)] [])
     else (
      bif xcm .geq a 256 then (
       K .ret [.slo 0 0 n0 0, .int .u64 x, .bool false, .ptr 1 0, .int .i64 ↑i, .ptr 9 0, .any, .slo 10 0 n 0, .int .i64 j] [some (.ro va), some (.cells [.slo 2 0 n 0, .sl 3 0 256 256, .int .i64 nd, .ptr 4 0] none), some (.cells cs (some 2)), some (.cells so none), some (.cells [.int .i64 96, .sl 5 0 1 1] none), some (.cells [.ptr 6 0] none), some (.cells [.ptr 7 0, .nils] none), some (.cells [.int .i64 96, .slo 8 0 m 0] none), some (.cells ds (some 2)), some (.cells [.int .i64 a, .int .u64 w] none), some (.cells cs (some 2)), some (.cells [.int .i64 a, .int .u64 x] none), some (.cells [.int .i64 (xmn (xmx (xar .sub .i64 96 ↑m) 0) 96), .nils] none), some (.cells [.int .i64 a, .int .u64 x] none)] [])
      else (
       bif xcm .geq 0 (xmn (xmx (xar .sub .i64 96 ↑m) 0) 96) then (
        K .ret [.slo 0 0 n0 0, .int .u64 x, .bool false, .ptr 1 0, .int .i64 ↑i, .ptr 9 0, .any, .slo 10 0 n 0, .int .i64 j] [some (.ro va), some (.cells [.slo 2 0 n 0, .sl 3 0 256 256, .int .i64 nd, .ptr 4 0] none), some (.cells cs (some 2)), some (.cells so none), some (.cells [.int .i64 96, .sl 5 0 1 1] none), some (.cells [.ptr 6 0] none), some (.cells [.ptr 7 0, .nils] none), some (.cells [.int .i64 96, .slo 8 0 m 0] none), some (.cells ds (some 2)), some (.cells [.int .i64 a, .int .u64 w] none), some (.cells cs (some 2)), some (.cells [.int .i64 a, .int .u64 x] none), some (.cells [.int .i64 (xmn (xmx (xar .sub .i64 96 ↑m) 0) 96), .nils] none), some (.cells [.int .i64 a, .int .u64 x] none)] [])
       else (
        bif xle m 1000000 then
        bif xeq (xln ds) (xmul m 2) then
        bif xnoid ds then
        bif xcm .lss a 1 then (
         K .ret [.slo 0 0 n0 0, .int .u64 x, .bool false, .ptr 1 0, .int .i64 ↑i, .ptr 9 0, .any, .slo 10 0 n 0, .int .i64 j] [some (.ro va), some (.cells [.slo 2 0 n 0, .sl 3 0 256 256, .int .i64 nd, .ptr 4 0] none), some (.cells cs (some 2)), some (.cells so none), some (.cells [.int .i64 96, .sl 5 0 1 1] none), some (.cells [.ptr 6 0] none), some (.cells [.ptr 7 0, .nils] none), some (.cells [.int .i64 96, .slo 8 0 m 0] none), some (.cells ds (some 2)), some (.cells [.int .i64 a, .int .u64 w] none), some (.cells cs (some 2)), some (.cells [.int .i64 a, .int .u64 x] none), some (.cells [.int .i64 (xmn (xmx (xar .sub .i64 96 ↑m) 0) 96), .slo 15 0 1 0] none), some (.cells [.int .i64 a, .int .u64 x] none), some (.cells [.int .i64 a, .int .u64 x] none), some (.cells [.int .i64 a, .int .u64 x] (some 2)), some (.cells ds (some 2)), some (.cells [.int .i64 96, .slo 16 0 m 0] none), some (.cells [.int .i64 a, .int .u64 x] none)] [])
        else (
         bif xcm .geq a 256 then (
          K .ret [.slo 0 0 n0 0, .int .u64 x, .bool false, .ptr 1 0, .int .i64 ↑i, .ptr 9 0, .any, .slo 10 0 n 0, .int .i64 j] [some (.ro va), some (.cells [.slo 2 0 n 0, .sl 3 0 256 256, .int .i64 nd, .ptr 4 0] none), some (.cells cs (some 2)), some (.cells so none), some (.cells [.int .i64 96, .sl 5 0 1 1] none), some (.cells [.ptr 6 0] none), some (.cells [.ptr 7 0, .nils] none), some (.cells [.int .i64 96, .slo 8 0 m 0] none), some (.cells ds (some 2)), some (.cells [.int .i64 a, .int .u64 w] none), some (.cells cs (some 2)), some (.cells [.int .i64 a, .int .u64 x] none), some (.cells [.int .i64 (xmn (xmx (xar .sub .i64 96 ↑m) 0) 96), .slo 15 0 1 0] none), some (.cells [.int .i64 a, .int .u64 x] none), some (.cells [.int .i64 a, .int .u64 x] none), some (.cells [.int .i64 a, .int .u64 x] (some 2)), some (.cells ds (some 2)), some (.cells [.int .i64 96, .slo 16 0 m 0] none), some (.cells [.int .i64 a, .int .u64 x] none)] [])
         else (
          bif okC ds m then
          bif xcm .geq (fndW ds a) 0 then (
           bif xnn (fndW ds a) then
           bif xle (xadd (xnat (fndW ds a)) 1) m then
           bif xle (xadd (xadd (xix 0 (xnat (fndW ds a)) 2) 1) 1) (xln ds) then
           bif xnn j then
           bif xle (xadd (xnat j) 1) n then
           bif xle (xadd (xadd (xix 0 (xnat j) 2) 1) 1) (xln cs) then
           bif isI .u64 (nthD cs (xadd (xix 0 (xnat j) 2) 1)) then
           bif xcm .geq a 1 then (
            bif xnot (xcm .lss a 256) then (
             K .ret [.slo 0 0 n0 0, .int .u64 x, .bool false, .ptr 1 0, .int .i64 ↑i, .ptr 9 0, .any, .slo 10 0 n 0, .int .i64 j] [some (.ro va), some (.cells [.slo 2 0 n 0, .sl 3 0 256 256, .int .i64 nd, .ptr 4 0] none), some (.cells cs (some 2)), some (.cells so none), some (.cells [.int .i64 96, .sl 5 0 1 1] none), some (.cells [.ptr 6 0] none), some (.cells [.ptr 7 0, .nils] none), some (.cells [.int .i64 96, .slo 16 0 m 0] none), some (.cells ds (some 2)), some (.cells [.int .i64 a, .int .u64 w] none), some (.cells cs (some 2)), some (.cells [.int .i64 a, .int .u64 x] none), some (.cells [.int .i64 (xmn (xmx (xar .sub .i64 96 ↑m) 0) 96), .slo 15 0 1 0] none), some (.cells [.int .i64 a, .int .u64 x] none), some (.cells [.int .i64 a, .int .u64 x] none), some (.cells [.int .i64 a, .int .u64 x] (some 2)), some (.cells (xlay ds (xadd (xix 0 (xnat (fndW ds a)) 2) 1) [.int .u64 x]) (some 2)), some (.cells [.int .i64 96, .slo 16 0 m 0] none), some (.cells [.int .i64 a, .int .u64 x] none)] [])
            else (
             bif xnn a then
             bif xle (xadd (xnat a) 1) 256 then
             bif xle (xadd (xix 0 (xnat a) 1) 1) (xln so) then
             bif isI .i64 (nthD so (xix 0 (xnat a) 1)) then
             bif xcm .gtr (asI (nthD so (xix 0 (xnat a) 1))) 0 then (
              bif xnn (xar .sub .i64 (asI (nthD so (xix 0 (xnat a) 1))) 1) then
              bif xle (xadd (xnat (xar .sub .i64 (asI (nthD so (xix 0 (xnat a) 1))) 1)) 1) n then
              bif xle (xadd (xadd (xix 0 (xnat (xar .sub .i64 (asI (nthD so (xix 0 (xnat a) 1))) 1)) 2) 1) 1) (xln cs) then
              bif isI .u64 (nthD cs (xadd (xix 0 (xnat (xar .sub .i64 (asI (nthD so (xix 0 (xnat a) 1))) 1)) 2) 1)) then
              bif xcm .neq (asI (nthD cs (xadd (xix 0 (xnat (xar .sub .i64 (asI (nthD so (xix 0 (xnat a) 1))) 1)) 2) 1))) (asI (nthD cs (xadd (xix 0 (xnat j) 2) 1))) then (
               K .ret [.slo 0 0 n0 0, .int .u64 x, .bool false, .ptr 1 0, .int .i64 ↑i, .ptr 9 0, .any, .slo 10 0 n 0, .int .i64 j] [some (.ro va), some (.cells [.slo 2 0 n 0, .sl 3 0 256 256, .int .i64 nd, .ptr 4 0] none), some (.cells cs (some 2)), some (.cells so none), some (.cells [.int .i64 96, .sl 5 0 1 1] none), some (.cells [.ptr 6 0] none), some (.cells [.ptr 7 0, .nils] none), some (.cells [.int .i64 96, .slo 16 0 m 0] none), some (.cells ds (some 2)), some (.cells [.int .i64 a, .int .u64 w] none), some (.cells cs (some 2)), some (.cells [.int .i64 a, .int .u64 x] none), some (.cells [.int .i64 (xmn (xmx (xar .sub .i64 96 ↑m) 0) 96), .slo 15 0 1 0] none), some (.cells [.int .i64 a, .int .u64 x] none), some (.cells [.int .i64 a, .int .u64 x] none), some (.cells [.int .i64 a, .int .u64 x] (some 2)), some (.cells (xlay ds (xadd (xix 0 (xnat (fndW ds a)) 2) 1) [.int .u64 x]) (some 2)), some (.cells [.int .i64 96, .slo 16 0 m 0] none), some (.cells [.int .i64 a, .int .u64 x] none)] [])
              else (
               bif xnn j then
               bif xle (xadd (xnat j) 1) n then
               bif xle (xadd (xadd (xix 0 (xnat j) 2) 1) 1) (xln cs) then
               bif isI .u64 (nthD cs (xadd (xix 0 (xnat j) 2) 1)) then
               bif xcm .geq a 1 then (
                bif xnot (xcm .lss a 256) then (
                 K .ret [.slo 0 0 n0 0, .int .u64 x, .bool false, .ptr 1 0, .int .i64 ↑i, .ptr 9 0, .any, .slo 10 0 n 0, .int .i64 j] [some (.ro va), some (.cells [.slo 2 0 n 0, .sl 3 0 256 256, .int .i64 nd, .ptr 4 0] none), some (.cells cs (some 2)), some (.cells so none), some (.cells [.int .i64 96, .sl 5 0 1 1] none), some (.cells [.ptr 6 0] none), some (.cells [.ptr 7 0, .nils] none), some (.cells [.int .i64 96, .slo 16 0 m 0] none), some (.cells ds (some 2)), some (.cells [.int .i64 a, .int .u64 w] none), some (.cells cs (some 2)), some (.cells [.int .i64 a, .int .u64 x] none), some (.cells [.int .i64 (xmn (xmx (xar .sub .i64 96 ↑m) 0) 96), .slo 15 0 1 0] none), some (.cells [.int .i64 a, .int .u64 x] none), some (.cells [.int .i64 a, .int .u64 x] none), some (.cells [.int .i64 a, .int .u64 x] (some 2)), some (.cells (xlay ds (xadd (xix 0 (xnat (fndW ds a)) 2) 1) [.int .u64 x]) (some 2)), some (.cells [.int .i64 96, .slo 16 0 m 0] none), some (.cells [.int .i64 a, .int .u64 x] none)] [])
                else (
                 bif xnn a then
                 bif xle (xadd (xnat a) 1) 256 then
                 bif xle (xadd (xix 0 (xnat a) 1) 1) (xln so) then
                 bif isI .i64 (nthD so (xix 0 (xnat a) 1)) then
                 bif xcm .gtr (asI (nthD so (xix 0 (xnat a) 1))) 0 then (
                  bif xnn (xar .sub .i64 (asI (nthD so (xix 0 (xnat a) 1))) 1) then
                  bif xle (xadd (xnat (xar .sub .i64 (asI (nthD so (xix 0 (xnat a) 1))) 1)) 1) n then
                  bif xle (xadd (xadd (xix 0 (xnat (xar .sub .i64 (asI (nthD so (xix 0 (xnat a) 1))) 1)) 2) 1) 1) (xln cs) then
                  bif isI .u64 (nthD cs (xadd (xix 0 (xnat (xar .sub .i64 (asI (nthD so (xix 0 (xnat a) 1))) 1)) 2) 1)) then
                  bif xcm .neq (asI (nthD cs (xadd (xix 0 (xnat (xar .sub .i64 (asI (nthD so (xix 0 (xnat a) 1))) 1)) 2) 1))) (xar .add .u64 (asI (nthD cs (xadd (xix 0 (xnat j) 2) 1))) 1) then (
                   bif xle n 1000000 then
                   bif xeq (xln cs) (xmul n 2) then
                   bif xnoid cs then
                   bif okC cs n then
                   bif okC cs n then
                   bif xnot (sameCC n n cs cs) then (
                    K .ret [.slo 0 0 n0 0, .int .u64 x, .bool false, .ptr 1 0, .int .i64 ↑i, .ptr 9 0, .any, .slo 10 0 n 0, .int .i64 j] [some (.ro va), some (.cells [.slo 2 0 n 0, .sl 3 0 256 256, .int .i64 nd, .ptr 4 0] none), some (.cells cs (some 2)), some (.cells so none), some (.cells [.int .i64 96, .sl 5 0 1 1] none), some (.cells [.ptr 6 0] none), some (.cells [.ptr 7 0, .nils] none), some (.cells [.int .i64 96, .slo 16 0 m 0] none), some (.cells ds (some 2)), some (.cells [.int .i64 a, .int .u64 w] none), some (.cells cs (some 2)), some (.cells [.int .i64 a, .int .u64 x] none), some (.cells [.int .i64 (xmn (xmx (xar .sub .i64 96 ↑m) 0) 96), .slo 15 0 1 0] none), some (.cells [.int .i64 a, .int .u64 x] none), some (.cells [.int .i64 a, .int .u64 x] none), some (.cells [.int .i64 a, .int .u64 x] (some 2)), some (.cells (xlay ds (xadd (xix 0 (xnat (fndW ds a)) 2) 1) [.int .u64 x]) (some 2)), some (.cells [.int .i64 96, .slo 16 0 m 0] none), some (.cells [.int .i64 a, .int .u64 x] none), some (.cells cs (some 2))] [])
                   else (
                    K .normal [.slo 0 0 n0 0, .int .u64 x, .any, .ptr 1 0, .int .i64 ↑i, .ptr 9 0, .any, .slo 10 0 n 0, .int .i64 j] [some (.ro va), some (.cells [.slo 2 0 n 0, .sl 3 0 256 256, .int .i64 nd, .ptr 4 0] none), some (.cells cs (some 2)), some (.cells so none), some (.cells [.int .i64 96, .sl 5 0 1 1] none), some (.cells [.ptr 6 0] none), some (.cells [.ptr 7 0, .nils] none), some (.cells [.int .i64 96, .slo 16 0 m 0] none), some (.cells ds (some 2)), some (.cells [.int .i64 a, .int .u64 w] none), some (.cells cs (some 2)), some (.cells [.int .i64 a, .int .u64 x] none), some (.cells [.int .i64 (xmn (xmx (xar .sub .i64 96 ↑m) 0) 96), .slo 15 0 1 0] none), some (.cells [.int .i64 a, .int .u64 x] none), some (.cells [.int .i64 a, .int .u64 x] none), some (.cells [.int .i64 a, .int .u64 x] (some 2)), some (.cells (xlay ds (xadd (xix 0 (xnat (fndW ds a)) 2) 1) [.int .u64 x]) (some 2)), some (.cells [.int .i64 96, .slo 16 0 m 0] none), some (.cells [.int .i64 a, .int .u64 x] none), some (.cells cs (some 2))] [])
                   else False
                   else False
                   else False
                   else False
                   else False)
                  else (
                   K .ret [.slo 0 0 n0 0, .int .u64 x, .bool false, .ptr 1 0, .int .i64 ↑i, .ptr 9 0, .any, .slo 10 0 n 0, .int .i64 j] [some (.ro va), some (.cells [.slo 2 0 n 0, .sl 3 0 256 256, .int .i64 nd, .ptr 4 0] none), some (.cells cs (some 2)), some (.cells so none), some (.cells [.int .i64 96, .sl 5 0 1 1] none), some (.cells [.ptr 6 0] none), some (.cells [.ptr 7 0, .nils] none), some (.cells [.int .i64 96, .slo 16 0 m 0] none), some (.cells ds (some 2)), some (.cells [.int .i64 a, .int .u64 w] none), some (.cells cs (some 2)), some (.cells [.int .i64 a, .int .u64 x] none), some (.cells [.int .i64 (xmn (xmx (xar .sub .i64 96 ↑m) 0) 96), .slo 15 0 1 0] none), some (.cells [.int .i64 a, .int .u64 x] none), some (.cells [.int .i64 a, .int .u64 x] none), some (.cells [.int .i64 a, .int .u64 x] (some 2)), some (.cells (xlay ds (xadd (xix 0 (xnat (fndW ds a)) 2) 1) [.int .u64 x]) (some 2)), some (.cells [.int .i64 96, .slo 16 0 m 0] none), some (.cells [.int .i64 a, .int .u64 x] none)] [])
                  else False
                  else False
                  else False
                  else False)
                 else (
                  bif xle (xadd n 1) 1000000 then
                  bif xle (xadd 0 (xmul n 2)) (xln cs) then
                  bif xnn a then
                  bif xle (xadd (xnat a) 1) 256 then
                  bif xle (xadd (xix 0 (xnat a) 1) 1) (xln so) then
                  K .ret [.slo 0 0 n0 0, .int .u64 x, .bool false, .ptr 1 0, .int .i64 ↑i, .ptr 9 0, .any, .slo 10 0 n 0, .int .i64 j] [some (.ro va), some (.cells [.slo 20 0 (xadd n 1) 0, .sl 3 0 256 256, .int .i64 nd, .ptr 4 0] none), some .dead, some (.cells (xlay so (xix 0 (xnat a) 1) [.int .i64 ↑(xadd n 1)]) none), some (.cells [.int .i64 96, .sl 5 0 1 1] none), some (.cells [.ptr 6 0] none), some (.cells [.ptr 7 0, .nils] none), some (.cells [.int .i64 96, .slo 16 0 m 0] none), some (.cells ds (some 2)), some (.cells [.int .i64 a, .int .u64 w] none), some (.cells cs (some 2)), some (.cells [.int .i64 a, .int .u64 x] none), some (.cells [.int .i64 (xmn (xmx (xar .sub .i64 96 ↑m) 0) 96), .slo 15 0 1 0] none), some (.cells [.int .i64 a, .int .u64 x] none), some (.cells [.int .i64 a, .int .u64 x] none), some (.cells [.int .i64 a, .int .u64 x] (some 2)), some (.cells (xlay ds (xadd (xix 0 (xnat (fndW ds a)) 2) 1) [.int .u64 x]) (some 2)), some (.cells [.int .i64 96, .slo 16 0 m 0] none), some (.cells [.int .i64 a, .int .u64 x] none), some (.cells [.int .i64 a, .int .u64 (xar .add .u64 (asI (nthD cs (xadd (xix 0 (xnat j) 2) 1))) 1)] none), some (.cells (xcat (xcut cs 0 (xmul n 2)) [.int .i64 a, .int .u64 (xar .add .u64 (asI (nthD cs (xadd (xix 0 (xnat j) 2) 1))) 1)]) (some 2))] []
                  else False
                  else False
                  else False
                  else False
                  else False)
                 else False
                 else False
                 else False
                 else False))
               else (
                K .ret [.slo 0 0 n0 0, .int .u64 x, .bool false, .ptr 1 0, .int .i64 ↑i, .ptr 9 0, .any, .slo 10 0 n 0, .int .i64 j] [some (.ro va), some (.cells [.slo 2 0 n 0, .sl 3 0 256 256, .int .i64 nd, .ptr 4 0] none), some (.cells cs (some 2)), some (.cells so none), some (.cells [.int .i64 96, .sl 5 0 1 1] none), some (.cells [.ptr 6 0] none), some (.cells [.ptr 7 0, .nils] none), some (.cells [.int .i64 96, .slo 16 0 m 0] none), some (.cells ds (some 2)), some (.cells [.int .i64 a, .int .u64 w] none), some (.cells cs (some 2)), some (.cells [.int .i64 a, .int .u64 x] none), some (.cells [.int .i64 (xmn (xmx (xar .sub .i64 96 ↑m) 0) 96), .slo 15 0 1 0] none), some (.cells [.int .i64 a, .int .u64 x] none), some (.cells [.int .i64 a, .int .u64 x] none), some (.cells [.int .i64 a, .int .u64 x] (some 2)), some (.cells (xlay ds (xadd (xix 0 (xnat (fndW ds a)) 2) 1) [.int .u64 x]) (some 2)), some (.cells [.int .i64 96, .slo 16 0 m 0] none), some (.cells [.int .i64 a, .int .u64 x] none)] [])
               else False
               else False
               else False
               else False)
              else False
              else False
              else False
              else False)
             else (
              bif xle (xadd n 1) 1000000 then
              bif xle (xadd 0 (xmul n 2)) (xln cs) then
              bif xnn a then
              bif xle (xadd (xnat a) 1) 256 then
              bif xle (xadd (xix 0 (xnat a) 1) 1) (xln so) then
              bif xnn j then
              bif xle (xadd (xnat j) 1) n then
              bif xle (xadd (xadd (xix 0 (xnat j) 2) 1) 1) (xln cs) then
              bif isI .u64 (nthD cs (xadd (xix 0 (xnat j) 2) 1)) then
              bif xcm .geq a 1 then (
               bif xnot (xcm .lss a 256) then (
                K .ret [.slo 0 0 n0 0, .int .u64 x, .bool false, .ptr 1 0, .int .i64 ↑i, .ptr 9 0, .any, .slo 10 0 n 0, .int .i64 j] [some (.ro va), some (.cells [.slo 20 0 (xadd n 1) 0, .sl 3 0 256 256, .int .i64 nd, .ptr 4 0] none), some .dead, some (.cells (xlay so (xix 0 (xnat a) 1) [.int .i64 ↑(xadd n 1)]) none), some (.cells [.int .i64 96, .sl 5 0 1 1] none), some (.cells [.ptr 6 0] none), some (.cells [.ptr 7 0, .nils] none), some (.cells [.int .i64 96, .slo 16 0 m 0] none), some (.cells ds (some 2)), some (.cells [.int .i64 a, .int .u64 w] none), some (.cells cs (some 2)), some (.cells [.int .i64 a, .int .u64 x] none), some (.cells [.int .i64 (xmn (xmx (xar .sub .i64 96 ↑m) 0) 96), .slo 15 0 1 0] none), some (.cells [.int .i64 a, .int .u64 x] none), some (.cells [.int .i64 a, .int .u64 x] none), some (.cells [.int .i64 a, .int .u64 x] (some 2)), some (.cells (xlay ds (xadd (xix 0 (xnat (fndW ds a)) 2) 1) [.int .u64 x]) (some 2)), some (.cells [.int .i64 96, .slo 16 0 m 0] none), some (.cells [.int .i64 a, .int .u64 x] none), some (.cells [.int .i64 a, .int .u64 (asI (nthD cs (xadd (xix 0 (xnat j) 2) 1)))] none), some (.cells (xcat (xcut cs 0 (xmul n 2)) [.int .i64 a, .int .u64 (asI (nthD cs (xadd (xix 0 (xnat j) 2) 1)))]) (some 2))] [])
               else (
                bif xnn a then
                bif xle (xadd (xnat a) 1) 256 then
                bif xle (xadd (xix 0 (xnat a) 1) 1) (xln (xlay so (xix 0 (xnat a) 1) [.int .i64 ↑(xadd n 1)])) then
                bif isI .i64 (nthD (xlay so (xix 0 (xnat a) 1) [.int .i64 ↑(xadd n 1)]) (xix 0 (xnat a) 1)) then
                bif xcm .gtr (asI (nthD (xlay so (xix 0 (xnat a) 1) [.int .i64 ↑(xadd n 1)]) (xix 0 (xnat a) 1))) 0 then (
                 bif xnn (xar .sub .i64 (asI (nthD (xlay so (xix 0 (xnat a) 1) [.int .i64 ↑(xadd n 1)]) (xix 0 (xnat a) 1))) 1) then
                 bif xle (xadd (xnat (xar .sub .i64 (asI (nthD (xlay so (xix 0 (xnat a) 1) [.int .i64 ↑(xadd n 1)]) (xix 0 (xnat a) 1))) 1)) 1) (xadd n 1) then
                 bif xle (xadd (xadd (xix 0 (xnat (xar .sub .i64 (asI (nthD (xlay so (xix 0 (xnat a) 1) [.int .i64 ↑(xadd n 1)]) (xix 0 (xnat a) 1))) 1)) 2) 1) 1) (xln (xcat (xcut cs 0 (xmul n 2)) [.int .i64 a, .int .u64 (asI (nthD cs (xadd (xix 0 (xnat j) 2) 1)))])) then
                 bif isI .u64 (nthD (xcat (xcut cs 0 (xmul n 2)) [.int .i64 a, .int .u64 (asI (nthD cs (xadd (xix 0 (xnat j) 2) 1)))]) (xadd (xix 0 (xnat (xar .sub .i64 (asI (nthD (xlay so (xix 0 (xnat a) 1) [.int .i64 ↑(xadd n 1)]) (xix 0 (xnat a) 1))) 1)) 2) 1)) then
                 bif xcm .neq (asI (nthD (xcat (xcut cs 0 (xmul n 2)) [.int .i64 a, .int .u64 (asI (nthD cs (xadd (xix 0 (xnat j) 2) 1)))]) (xadd (xix 0 (xnat (xar .sub .i64 (asI (nthD (xlay so (xix 0 (xnat a) 1) [.int .i64 ↑(xadd n 1)]) (xix 0 (xnat a) 1))) 1)) 2) 1))) (xar .add .u64 (asI (nthD cs (xadd (xix 0 (xnat j) 2) 1))) 1) then (
                  bif xle (xadd n 1) 1000000 then
                  bif xeq (xln (xcat (xcut cs 0 (xmul n 2)) [.int .i64 a, .int .u64 (asI (nthD cs (xadd (xix 0 (xnat j) 2) 1)))])) (xmul (xadd n 1) 2) then
                  bif xnoid (xcat (xcut cs 0 (xmul n 2)) [.int .i64 a, .int .u64 (asI (nthD cs (xadd (xix 0 (xnat j) 2) 1)))]) then
                  bif okC (xcat (xcut cs 0 (xmul n 2)) [.int .i64 a, .int .u64 (asI (nthD cs (xadd (xix 0 (xnat j) 2) 1)))]) (xadd n 1) then
                  bif okC cs n then
                  bif xnot (sameCC (xadd n 1) n (xcat (xcut cs 0 (xmul n 2)) [.int .i64 a, .int .u64 (asI (nthD cs (xadd (xix 0 (xnat j) 2) 1)))]) cs) then (
                   K .ret [.slo 0 0 n0 0, .int .u64 x, .bool false, .ptr 1 0, .int .i64 ↑i, .ptr 9 0, .any, .slo 10 0 n 0, .int .i64 j] [some (.ro va), some (.cells [.slo 20 0 (xadd n 1) 0, .sl 3 0 256 256, .int .i64 nd, .ptr 4 0] none), some .dead, some (.cells (xlay so (xix 0 (xnat a) 1) [.int .i64 ↑(xadd n 1)]) none), some (.cells [.int .i64 96, .sl 5 0 1 1] none), some (.cells [.ptr 6 0] none), some (.cells [.ptr 7 0, .nils] none), some (.cells [.int .i64 96, .slo 16 0 m 0] none), some (.cells ds (some 2)), some (.cells [.int .i64 a, .int .u64 w] none), some (.cells cs (some 2)), some (.cells [.int .i64 a, .int .u64 x] none), some (.cells [.int .i64 (xmn (xmx (xar .sub .i64 96 ↑m) 0) 96), .slo 15 0 1 0] none), some (.cells [.int .i64 a, .int .u64 x] none), some (.cells [.int .i64 a, .int .u64 x] none), some (.cells [.int .i64 a, .int .u64 x] (some 2)), some (.cells (xlay ds (xadd (xix 0 (xnat (fndW ds a)) 2) 1) [.int .u64 x]) (some 2)), some (.cells [.int .i64 96, .slo 16 0 m 0] none), some (.cells [.int .i64 a, .int .u64 x] none), some (.cells [.int .i64 a, .int .u64 (asI (nthD cs (xadd (xix 0 (xnat j) 2) 1)))] none), some (.cells (xcat (xcut cs 0 (xmul n 2)) [.int .i64 a, .int .u64 (asI (nthD cs (xadd (xix 0 (xnat j) 2) 1)))]) (some 2)), some (.cells (xcat (xcut cs 0 (xmul n 2)) [.int .i64 a, .int .u64 (asI (nthD cs (xadd (xix 0 (xnat j) 2) 1)))]) (some 2))] [])
                  else (
                   K .normal [.slo 0 0 n0 0, .int .u64 x, .any, .ptr 1 0, .int .i64 ↑i, .ptr 9 0, .any, .slo 10 0 n 0, .int .i64 j] [some (.ro va), some (.cells [.slo 20 0 (xadd n 1) 0, .sl 3 0 256 256, .int .i64 nd, .ptr 4 0] none), some .dead, some (.cells (xlay so (xix 0 (xnat a) 1) [.int .i64 ↑(xadd n 1)]) none), some (.cells [.int .i64 96, .sl 5 0 1 1] none), some (.cells [.ptr 6 0] none), some (.cells [.ptr 7 0, .nils] none), some (.cells [.int .i64 96, .slo 16 0 m 0] none), some (.cells ds (some 2)), some (.cells [.int .i64 a, .int .u64 w] none), some (.cells cs (some 2)), some (.cells [.int .i64 a, .int .u64 x] none), some (.cells [.int .i64 (xmn (xmx (xar .sub .i64 96 ↑m) 0) 96), .slo 15 0 1 0] none), some (.cells [.int .i64 a, .int .u64 x] none), some (.cells [.int .i64 a, .int .u64 x] none), some (.cells [.int .i64 a, .int .u64 x] (some 2)), some (.cells (xlay ds (xadd (xix 0 (xnat (fndW ds a)) 2) 1) [.int .u64 x]) (some 2)), some (.cells [.int .i64 96, .slo 16 0 m 0] none), some (.cells [.int .i64 a, .int .u64 x] none), some (.cells [.int .i64 a, .int .u64 (asI (nthD cs (xadd (xix 0 (xnat j) 2) 1)))] none), some (.cells (xcat (xcut cs 0 (xmul n 2)) [.int .i64 a, .int .u64 (asI (nthD cs (xadd (xix 0 (xnat j) 2) 1)))]) (some 2)), some (.cells (xcat (xcut cs 0 (xmul n 2)) [.int .i64 a, .int .u64 (asI (nthD cs (xadd (xix 0 (xnat j) 2) 1)))]) (some 2))] [])
                  else False
                  else False
                  else False
                  else False
                  else False)
                 else (
                  K .ret [.slo 0 0 n0 0, .int .u64 x, .bool false, .ptr 1 0, .int .i64 ↑i, .ptr 9 0, .any, .slo 10 0 n 0, .int .i64 j] [some (.ro va), some (.cells [.slo 20 0 (xadd n 1) 0, .sl 3 0 256 256, .int .i64 nd, .ptr 4 0] none), some .dead, some (.cells (xlay so (xix 0 (xnat a) 1) [.int .i64 ↑(xadd n 1)]) none), some (.cells [.int .i64 96, .sl 5 0 1 1] none), some (.cells [.ptr 6 0] none), some (.cells [.ptr 7 0, .nils] none), some (.cells [.int .i64 96, .slo 16 0 m 0] none), some (.cells ds (some 2)), some (.cells [.int .i64 a, .int .u64 w] none), some (.cells cs (some 2)), some (.cells [.int .i64 a, .int .u64 x] none), some (.cells [.int .i64 (xmn (xmx (xar .sub .i64 96 ↑m) 0) 96), .slo 15 0 1 0] none), some (.cells [.int .i64 a, .int .u64 x] none), some (.cells [.int .i64 a, .int .u64 x] none), some (.cells [.int .i64 a, .int .u64 x] (some 2)), some (.cells (xlay ds (xadd (xix 0 (xnat (fndW ds a)) 2) 1) [.int .u64 x]) (some 2)), some (.cells [.int .i64 96, .slo 16 0 m 0] none), some (.cells [.int .i64 a, .int .u64 x] none), some (.cells [.int .i64 a, .int .u64 (asI (nthD cs (xadd (xix 0 (xnat j) 2) 1)))] none), some (.cells (xcat (xcut cs 0 (xmul n 2)) [.int .i64 a, .int .u64 (asI (nthD cs (xadd (xix 0 (xnat j) 2) 1)))]) (some 2))] [])
                 else False
                 else False
                 else False
                 else False)
                else (
                 bif xle (xadd (xadd n 1) 1) 1000000 then
                 bif xle (xadd 0 (xmul (xadd n 1) 2)) (xln (xcat (xcut cs 0 (xmul n 2)) [.int .i64 a, .int .u64 (asI (nthD cs (xadd (xix 0 (xnat j) 2) 1)))])) then
                 bif xnn a then
                 bif xle (xadd (xnat a) 1) 256 then
                 bif xle (xadd (xix 0 (xnat a) 1) 1) (xln (xlay so (xix 0 (xnat a) 1) [.int .i64 ↑(xadd n 1)])) then
                 K .ret [.slo 0 0 n0 0, .int .u64 x, .bool false, .ptr 1 0, .int .i64 ↑i, .ptr 9 0, .any, .slo 10 0 n 0, .int .i64 j] [some (.ro va), some (.cells [.slo 22 0 (xadd (xadd n 1) 1) 0, .sl 3 0 256 256, .int .i64 nd, .ptr 4 0] none), some .dead, some (.cells (xlay (xlay so (xix 0 (xnat a) 1) [.int .i64 ↑(xadd n 1)]) (xix 0 (xnat a) 1) [.int .i64 ↑(xadd (xadd n 1) 1)]) none), some (.cells [.int .i64 96, .sl 5 0 1 1] none), some (.cells [.ptr 6 0] none), some (.cells [.ptr 7 0, .nils] none), some (.cells [.int .i64 96, .slo 16 0 m 0] none), some (.cells ds (some 2)), some (.cells [.int .i64 a, .int .u64 w] none), some (.cells cs (some 2)), some (.cells [.int .i64 a, .int .u64 x] none), some (.cells [.int .i64 (xmn (xmx (xar .sub .i64 96 ↑m) 0) 96), .slo 15 0 1 0] none), some (.cells [.int .i64 a, .int .u64 x] none), some (.cells [.int .i64 a, .int .u64 x] none), some (.cells [.int .i64 a, .int .u64 x] (some 2)), some (.cells (xlay ds (xadd (xix 0 (xnat (fndW ds a)) 2) 1) [.int .u64 x]) (some 2)), some (.cells [.int .i64 96, .slo 16 0 m 0] none), some (.cells [.int .i64 a, .int .u64 x] none), some (.cells [.int .i64 a, .int .u64 (asI (nthD cs (xadd (xix 0 (xnat j) 2) 1)))] none), some .dead, some (.cells [.int .i64 a, .int .u64 (xar .add .u64 (asI (nthD cs (xadd (xix 0 (xnat j) 2) 1))) 1)] none), some (.cells (xcat (xcut (xcat (xcut cs 0 (xmul n 2)) [.int .i64 a, .int .u64 (asI (nthD cs (xadd (xix 0 (xnat j) 2) 1)))]) 0 (xmul (xadd n 1) 2)) [.int .i64 a, .int .u64 (xar .add .u64 (asI (nthD cs (xadd (xix 0 (xnat j) 2) 1))) 1)]) (some 2))] []
                 else False
                 else False
                 else False
                 else False
                 else False)
                else False
                else False
                else False
                else False))
              else (
               K .ret [.slo 0 0 n0 0, .int .u64 x, .bool false, .ptr 1 0, .int .i64 ↑i, .ptr 9 0, .any, .slo 10 0 n 0, .int .i64 j] [some (.ro va), some (.cells [.slo 20 0 (xadd n 1) 0, .sl 3 0 256 256, .int .i64 nd, .ptr 4 0] none), some .dead, some (.cells (xlay so (xix 0 (xnat a) 1) [.int .i64 ↑(xadd n 1)]) none), some (.cells [.int .i64 96, .sl 5 0 1 1] none), some (.cells [.ptr 6 0] none), some (.cells [.ptr 7 0, .nils] none), some (.cells [.int .i64 96, .slo 16 0 m 0] none), some (.cells ds (some 2)), some (.cells [.int .i64 a, .int .u64 w] none), some (.cells cs (some 2)), some (.cells [.int .i64 a, .int .u64 x] none), some (.cells [.int .i64 (xmn (xmx (xar .sub .i64 96 ↑m) 0) 96), .slo 15 0 1 0] none), some (.cells [.int .i64 a, .int .u64 x] none), some (.cells [.int .i64 a, .int .u64 x] none), some (.cells [.int .i64 a, .int .u64 x] (some 2)), some (.cells (xlay ds (xadd (xix 0 (xnat (fndW ds a)) 2) 1) [.int .u64 x]) (some 2)), some (.cells [.int .i64 96, .slo 16 0 m 0] none), some (.cells [.int .i64 a, .int .u64 x] none), some (.cells [.int .i64 a, .int .u64 (asI (nthD cs (xadd (xix 0 (xnat j) 2) 1)))] none), some (.cells (xcat (xcut cs 0 (xmul n 2)) [.int .i64 a, .int .u64 (asI (nthD cs (xadd (xix 0 (xnat j) 2) 1)))]) (some 2))] [])
              else False
              else False
              else False
              else False
              else False
              else False
              else False
              else False
              else False)
             else False
             else False
             else False
             else False))
           else (
            K .ret [.slo 0 0 n0 0, .int .u64 x, .bool false, .ptr 1 0, .int .i64 ↑i, .ptr 9 0, .any, .slo 10 0 n 0, .int .i64 j] [some (.ro va), some (.cells [.slo 2 0 n 0, .sl 3 0 256 256, .int .i64 nd, .ptr 4 0] none), some (.cells cs (some 2)), some (.cells so none), some (.cells [.int .i64 96, .sl 5 0 1 1] none), some (.cells [.ptr 6 0] none), some (.cells [.ptr 7 0, .nils] none), some (.cells [.int .i64 96, .slo 16 0 m 0] none), some (.cells ds (some 2)), some (.cells [.int .i64 a, .int .u64 w] none), some (.cells cs (some 2)), some (.cells [.int .i64 a, .int .u64 x] none), some (.cells [.int .i64 (xmn (xmx (xar .sub .i64 96 ↑m) 0) 96), .slo 15 0 1 0] none), some (.cells [.int .i64 a, .int .u64 x] none), some (.cells [.int .i64 a, .int .u64 x] none), some (.cells [.int .i64 a, .int .u64 x] (some 2)), some (.cells (xlay ds (xadd (xix 0 (xnat (fndW ds a)) 2) 1) [.int .u64 x]) (some 2)), some (.cells [.int .i64 96, .slo 16 0 m 0] none), some (.cells [.int .i64 a, .int .u64 x] none)] [])
           else False
           else False
           else False
           else False
           else False
           else False
           else False)
          else (
           bif xcm .geq (↑m) 96 then (
            K .ret [.slo 0 0 n0 0, .int .u64 x, .bool false, .ptr 1 0, .int .i64 ↑i, .ptr 9 0, .any, .slo 10 0 n 0, .int .i64 j] [some (.ro va), some (.cells [.slo 2 0 n 0, .sl 3 0 256 256, .int .i64 nd, .ptr 4 0] none), some (.cells cs (some 2)), some (.cells so none), some (.cells [.int .i64 96, .sl 5 0 1 1] none), some (.cells [.ptr 6 0] none), some (.cells [.ptr 7 0, .nils] none), some (.cells [.int .i64 96, .slo 8 0 m 0] none), some (.cells ds (some 2)), some (.cells [.int .i64 a, .int .u64 w] none), some (.cells cs (some 2)), some (.cells [.int .i64 a, .int .u64 x] none), some (.cells [.int .i64 (xmn (xmx (xar .sub .i64 96 ↑m) 0) 96), .slo 15 0 1 0] none), some (.cells [.int .i64 a, .int .u64 x] none), some (.cells [.int .i64 a, .int .u64 x] none), some (.cells [.int .i64 a, .int .u64 x] (some 2)), some (.cells ds (some 2)), some (.cells [.int .i64 96, .slo 16 0 m 0] none), some (.cells [.int .i64 a, .int .u64 x] none)] [])
           else (
            bif xle (xadd m 1) 1000000 then
            bif xle (xadd 0 (xmul m 2)) (xln ds) then
            bif xnn j then
            bif xle (xadd (xnat j) 1) n then
            bif xle (xadd (xadd (xix 0 (xnat j) 2) 1) 1) (xln cs) then
            bif isI .u64 (nthD cs (xadd (xix 0 (xnat j) 2) 1)) then
            bif xcm .geq a 1 then (
             bif xnot (xcm .lss a 256) then (
              K .ret [.slo 0 0 n0 0, .int .u64 x, .bool false, .ptr 1 0, .int .i64 ↑i, .ptr 9 0, .any, .slo 10 0 n 0, .int .i64 j] [some (.ro va), some (.cells [.slo 2 0 n 0, .sl 3 0 256 256, .int .i64 nd, .ptr 4 0] none), some (.cells cs (some 2)), some (.cells so none), some (.cells [.int .i64 96, .sl 5 0 1 1] none), some (.cells [.ptr 6 0] none), some (.cells [.ptr 7 0, .nils] none), some (.cells [.int .i64 96, .slo 20 0 (xadd m 1) 0] none), some (.cells ds (some 2)), some (.cells [.int .i64 a, .int .u64 w] none), some (.cells cs (some 2)), some (.cells [.int .i64 a, .int .u64 x] none), some (.cells [.int .i64 (xmn (xmx (xar .sub .i64 96 ↑m) 0) 96), .slo 15 0 1 0] none), some (.cells [.int .i64 a, .int .u64 x] none), some (.cells [.int .i64 a, .int .u64 x] none), some (.cells [.int .i64 a, .int .u64 x] (some 2)), some .dead, some (.cells [.int .i64 96, .slo 20 0 (xadd m 1) 0] none), some (.cells [.int .i64 a, .int .u64 x] none), some (.cells [.int .i64 a, .int .u64 x] none), some (.cells (xcat (xcut ds 0 (xmul m 2)) [.int .i64 a, .int .u64 x]) (some 2))] [])
             else (
              bif xnn a then
              bif xle (xadd (xnat a) 1) 256 then
              bif xle (xadd (xix 0 (xnat a) 1) 1) (xln so) then
              bif isI .i64 (nthD so (xix 0 (xnat a) 1)) then
              bif xcm .gtr (asI (nthD so (xix 0 (xnat a) 1))) 0 then (
               bif xnn (xar .sub .i64 (asI (nthD so (xix 0 (xnat a) 1))) 1) then
               bif xle (xadd (xnat (xar .sub .i64 (asI (nthD so (xix 0 (xnat a) 1))) 1)) 1) n then
               bif xle (xadd (xadd (xix 0 (xnat (xar .sub .i64 (asI (nthD so (xix 0 (xnat a) 1))) 1)) 2) 1) 1) (xln cs) then
               bif isI .u64 (nthD cs (xadd (xix 0 (xnat (xar .sub .i64 (asI (nthD so (xix 0 (xnat a) 1))) 1)) 2) 1)) then
               bif xcm .neq (asI (nthD cs (xadd (xix 0 (xnat (xar .sub .i64 (asI (nthD so (xix 0 (xnat a) 1))) 1)) 2) 1))) (asI (nthD cs (xadd (xix 0 (xnat j) 2) 1))) then (
                K .ret [.slo 0 0 n0 0, .int .u64 x, .bool false, .ptr 1 0, .int .i64 ↑i, .ptr 9 0, .any, .slo 10 0 n 0, .int .i64 j] [some (.ro va), some (.cells [.slo 2 0 n 0, .sl 3 0 256 256, .int .i64 nd, .ptr 4 0] none), some (.cells cs (some 2)), some (.cells so none), some (.cells [.int .i64 96, .sl 5 0 1 1] none), some (.cells [.ptr 6 0] none), some (.cells [.ptr 7 0, .nils] none), some (.cells [.int .i64 96, .slo 20 0 (xadd m 1) 0] none), some (.cells ds (some 2)), some (.cells [.int .i64 a, .int .u64 w] none), some (.cells cs (some 2)), some (.cells [.int .i64 a, .int .u64 x] none), some (.cells [.int .i64 (xmn (xmx (xar .sub .i64 96 ↑m) 0) 96), .slo 15 0 1 0] none), some (.cells [.int .i64 a, .int .u64 x] none), some (.cells [.int .i64 a, .int .u64 x] none), some (.cells [.int .i64 a, .int .u64 x] (some 2)), some .dead, some (.cells [.int .i64 96, .slo 20 0 (xadd m 1) 0] none), some (.cells [.int .i64 a, .int .u64 x] none), some (.cells [.int .i64 a, .int .u64 x] none), some (.cells (xcat (xcut ds 0 (xmul m 2)) [.int .i64 a, .int .u64 x]) (some 2))] [])
               else (
                bif xnn j then
                bif xle (xadd (xnat j) 1) n then
                bif xle (xadd (xadd (xix 0 (xnat j) 2) 1) 1) (xln cs) then
                bif isI .u64 (nthD cs (xadd (xix 0 (xnat j) 2) 1)) then
                bif xcm .geq a 1 then (
                 bif xnot (xcm .lss a 256) then (
                  K .ret [.slo 0 0 n0 0, .int .u64 x, .bool false, .ptr 1 0, .int .i64 ↑i, .ptr 9 0, .any, .slo 10 0 n 0, .int .i64 j] [some (.ro va), some (.cells [.slo 2 0 n 0, .sl 3 0 256 256, .int .i64 nd, .ptr 4 0] none), some (.cells cs (some 2)), some (.cells so none), some (.cells [.int .i64 96, .sl 5 0 1 1] none), some (.cells [.ptr 6 0] none), some (.cells [.ptr 7 0, .nils] none), some (.cells [.int .i64 96, .slo 20 0 (xadd m 1) 0] none), some (.cells ds (some 2)), some (.cells [.int .i64 a, .int .u64 w] none), some (.cells cs (some 2)), some (.cells [.int .i64 a, .int .u64 x] none), some (.cells [.int .i64 (xmn (xmx (xar .sub .i64 96 ↑m) 0) 96), .slo 15 0 1 0] none), some (.cells [.int .i64 a, .int .u64 x] none), some (.cells [.int .i64 a, .int .u64 x] none), some (.cells [.int .i64 a, .int .u64 x] (some 2)), some .dead, some (.cells [.int .i64 96, .slo 20 0 (xadd m 1) 0] none), some (.cells [.int .i64 a, .int .u64 x] none), some (.cells [.int .i64 a, .int .u64 x] none), some (.cells (xcat (xcut ds 0 (xmul m 2)) [.int .i64 a, .int .u64 x]) (some 2))] [])
                 else (
                  bif xnn a then
                  bif xle (xadd (xnat a) 1) 256 then
                  bif xle (xadd (xix 0 (xnat a) 1) 1) (xln so) then
                  bif isI .i64 (nthD so (xix 0 (xnat a) 1)) then
                  bif xcm .gtr (asI (nthD so (xix 0 (xnat a) 1))) 0 then (
                   bif xnn (xar .sub .i64 (asI (nthD so (xix 0 (xnat a) 1))) 1) then
                   bif xle (xadd (xnat (xar .sub .i64 (asI (nthD so (xix 0 (xnat a) 1))) 1)) 1) n then
                   bif xle (xadd (xadd (xix 0 (xnat (xar .sub .i64 (asI (nthD so (xix 0 (xnat a) 1))) 1)) 2) 1) 1) (xln cs) then
                   bif isI .u64 (nthD cs (xadd (xix 0 (xnat (xar .sub .i64 (asI (nthD so (xix 0 (xnat a) 1))) 1)) 2) 1)) then
                   bif xcm .neq (asI (nthD cs (xadd (xix 0 (xnat (xar .sub .i64 (asI (nthD so (xix 0 (xnat a) 1))) 1)) 2) 1))) (xar .add .u64 (asI (nthD cs (xadd (xix 0 (xnat j) 2) 1))) 1) then (
                    bif xle n 1000000 then
                    bif xeq (xln cs) (xmul n 2) then
                    bif xnoid cs then
                    bif okC cs n then
                    bif okC cs n then
                    bif xnot (sameCC n n cs cs) then (
                     K .ret [.slo 0 0 n0 0, .int .u64 x, .bool false, .ptr 1 0, .int .i64 ↑i, .ptr 9 0, .any, .slo 10 0 n 0, .int .i64 j] [some (.ro va), some (.cells [.slo 2 0 n 0, .sl 3 0 256 256, .int .i64 nd, .ptr 4 0] none), some (.cells cs (some 2)), some (.cells so none), some (.cells [.int .i64 96, .sl 5 0 1 1] none), some (.cells [.ptr 6 0] none), some (.cells [.ptr 7 0, .nils] none), some (.cells [.int .i64 96, .slo 20 0 (xadd m 1) 0] none), some (.cells ds (some 2)), some (.cells [.int .i64 a, .int .u64 w] none), some (.cells cs (some 2)), some (.cells [.int .i64 a, .int .u64 x] none), some (.cells [.int .i64 (xmn (xmx (xar .sub .i64 96 ↑m) 0) 96), .slo 15 0 1 0] none), some (.cells [.int .i64 a, .int .u64 x] none), some (.cells [.int .i64 a, .int .u64 x] none), some (.cells [.int .i64 a, .int .u64 x] (some 2)), some .dead, some (.cells [.int .i64 96, .slo 20 0 (xadd m 1) 0] none), some (.cells [.int .i64 a, .int .u64 x] none), some (.cells [.int .i64 a, .int .u64 x] none), some (.cells (xcat (xcut ds 0 (xmul m 2)) [.int .i64 a, .int .u64 x]) (some 2)), some (.cells cs (some 2))] [])
                    else (
                     K .normal [.slo 0 0 n0 0, .int .u64 x, .any, .ptr 1 0, .int .i64 ↑i, .ptr 9 0, .any, .slo 10 0 n 0, .int .i64 j] [some (.ro va), some (.cells [.slo 2 0 n 0, .sl 3 0 256 256, .int .i64 nd, .ptr 4 0] none), some (.cells cs (some 2)), some (.cells so none), some (.cells [.int .i64 96, .sl 5 0 1 1] none), some (.cells [.ptr 6 0] none), some (.cells [.ptr 7 0, .nils] none), some (.cells [.int .i64 96, .slo 20 0 (xadd m 1) 0] none), some (.cells ds (some 2)), some (.cells [.int .i64 a, .int .u64 w] none), some (.cells cs (some 2)), some (.cells [.int .i64 a, .int .u64 x] none), some (.cells [.int .i64 (xmn (xmx (xar .sub .i64 96 ↑m) 0) 96), .slo 15 0 1 0] none), some (.cells [.int .i64 a, .int .u64 x] none), some (.cells [.int .i64 a, .int .u64 x] none), some (.cells [.int .i64 a, .int .u64 x] (some 2)), some .dead, some (.cells [.int .i64 96, .slo 20 0 (xadd m 1) 0] none), some (.cells [.int .i64 a, .int .u64 x] none), some (.cells [.int .i64 a, .int .u64 x] none), some (.cells (xcat (xcut ds 0 (xmul m 2)) [.int .i64 a, .int .u64 x]) (some 2)), some (.cells cs (some 2))] [])
                    else False
                    else False
                    else False
                    else False
                    else False)
                   else (
                    K .ret [.slo 0 0 n0 0, .int .u64 x, .bool false, .ptr 1 0, .int .i64 ↑i, .ptr 9 0, .any, .slo 10 0 n 0, .int .i64 j] [some (.ro va), some (.cells [.slo 2 0 n 0, .sl 3 0 256 256, .int .i64 nd, .ptr 4 0] none), some (.cells cs (some 2)), some (.cells so none), some (.cells [.int .i64 96, .sl 5 0 1 1] none), some (.cells [.ptr 6 0] none), some (.cells [.ptr 7 0, .nils] none), some (.cells [.int .i64 96, .slo 20 0 (xadd m 1) 0] none), some (.cells ds (some 2)), some (.cells [.int .i64 a, .int .u64 w] none), some (.cells cs (some 2)), some (.cells [.int .i64 a, .int .u64 x] none), some (.cells [.int .i64 (xmn (xmx (xar .sub .i64 96 ↑m) 0) 96), .slo 15 0 1 0] none), some (.cells [.int .i64 a, .int .u64 x] none), some (.cells [.int .i64 a, .int .u64 x] none), some (.cells [.int .i64 a, .int .u64 x] (some 2)), some .dead, some (.cells [.int .i64 96, .slo 20 0 (xadd m 1) 0] none), some (.cells [.int .i64 a, .int .u64 x] none), some (.cells [.int .i64 a, .int .u64 x] none), some (.cells (xcat (xcut ds 0 (xmul m 2)) [.int .i64 a, .int .u64 x]) (some 2))] [])
                   else False
                   else False
                   else False
                   else False)
                  else (
                   bif xle (xadd n 1) 1000000 then
                   bif xle (xadd 0 (xmul n 2)) (xln cs) then
                   bif xnn a then
                   bif xle (xadd (xnat a) 1) 256 then
                   bif xle (xadd (xix 0 (xnat a) 1) 1) (xln so) then
                   K .ret [.slo 0 0 n0 0, .int .u64 x, .bool false, .ptr 1 0, .int .i64 ↑i, .ptr 9 0, .any, .slo 10 0 n 0, .int .i64 j] [some (.ro va), some (.cells [.slo 22 0 (xadd n 1) 0, .sl 3 0 256 256, .int .i64 nd, .ptr 4 0] none), some .dead, some (.cells (xlay so (xix 0 (xnat a) 1) [.int .i64 ↑(xadd n 1)]) none), some (.cells [.int .i64 96, .sl 5 0 1 1] none), some (.cells [.ptr 6 0] none), some (.cells [.ptr 7 0, .nils] none), some (.cells [.int .i64 96, .slo 20 0 (xadd m 1) 0] none), some (.cells ds (some 2)), some (.cells [.int .i64 a, .int .u64 w] none), some (.cells cs (some 2)), some (.cells [.int .i64 a, .int .u64 x] none), some (.cells [.int .i64 (xmn (xmx (xar .sub .i64 96 ↑m) 0) 96), .slo 15 0 1 0] none), some (.cells [.int .i64 a, .int .u64 x] none), some (.cells [.int .i64 a, .int .u64 x] none), some (.cells [.int .i64 a, .int .u64 x] (some 2)), some .dead, some (.cells [.int .i64 96, .slo 20 0 (xadd m 1) 0] none), some (.cells [.int .i64 a, .int .u64 x] none), some (.cells [.int .i64 a, .int .u64 x] none), some (.cells (xcat (xcut ds 0 (xmul m 2)) [.int .i64 a, .int .u64 x]) (some 2)), some (.cells [.int .i64 a, .int .u64 (xar .add .u64 (asI (nthD cs (xadd (xix 0 (xnat j) 2) 1))) 1)] none), some (.cells (xcat (xcut cs 0 (xmul n 2)) [.int .i64 a, .int .u64 (xar .add .u64 (asI (nthD cs (xadd (xix 0 (xnat j) 2) 1))) 1)]) (some 2))] []
                   else False
                   else False
                   else False
                   else False
                   else False)
                  else False
                  else False
                  else False
                  else False))
                else (
                 K .ret [.slo 0 0 n0 0, .int .u64 x, .bool false, .ptr 1 0, .int .i64 ↑i, .ptr 9 0, .any, .slo 10 0 n 0, .int .i64 j] [some (.ro va), some (.cells [.slo 2 0 n 0, .sl 3 0 256 256, .int .i64 nd, .ptr 4 0] none), some (.cells cs (some 2)), some (.cells so none), some (.cells [.int .i64 96, .sl 5 0 1 1] none), some (.cells [.ptr 6 0] none), some (.cells [.ptr 7 0, .nils] none), some (.cells [.int .i64 96, .slo 20 0 (xadd m 1) 0] none), some (.cells ds (some 2)), some (.cells [.int .i64 a, .int .u64 w] none), some (.cells cs (some 2)), some (.cells [.int .i64 a, .int .u64 x] none), some (.cells [.int .i64 (xmn (xmx (xar .sub .i64 96 ↑m) 0) 96), .slo 15 0 1 0] none), some (.cells [.int .i64 a, .int .u64 x] none), some (.cells [.int .i64 a, .int .u64 x] none), some (.cells [.int .i64 a, .int .u64 x] (some 2)), some .dead, some (.cells [.int .i64 96, .slo 20 0 (xadd m 1) 0] none), some (.cells [.int .i64 a, .int .u64 x] none), some (.cells [.int .i64 a, .int .u64 x] none), some (.cells (xcat (xcut ds 0 (xmul m 2)) [.int .i64 a, .int .u64 x]) (some 2))] [])
                else False
                else False
                else False
                else False)
               else False
               else False
               else False
               else False)
              else (
               bif xle (xadd n 1) 1000000 then
               bif xle (xadd 0 (xmul n 2)) (xln cs) then
               bif xnn a then
               bif xle (xadd (xnat a) 1) 256 then
               bif xle (xadd (xix 0 (xnat a) 1) 1) (xln so) then
               bif xnn j then
               bif xle (xadd (xnat j) 1) n then
               bif xle (xadd (xadd (xix 0 (xnat j) 2) 1) 1) (xln cs) then
               bif isI .u64 (nthD cs (xadd (xix 0 (xnat j) 2) 1)) then
               bif xcm .geq a 1 then (
                bif xnot (xcm .lss a 256) then (
                 K .ret [.slo 0 0 n0 0, .int .u64 x, .bool false, .ptr 1 0, .int .i64 ↑i, .ptr 9 0, .any, .slo 10 0 n 0, .int .i64 j] [some (.ro va), some (.cells [.slo 22 0 (xadd n 1) 0, .sl 3 0 256 256, .int .i64 nd, .ptr 4 0] none), some .dead, some (.cells (xlay so (xix 0 (xnat a) 1) [.int .i64 ↑(xadd n 1)]) none), some (.cells [.int .i64 96, .sl 5 0 1 1] none), some (.cells [.ptr 6 0] none), some (.cells [.ptr 7 0, .nils] none), some (.cells [.int .i64 96, .slo 20 0 (xadd m 1) 0] none), some (.cells ds (some 2)), some (.cells [.int .i64 a, .int .u64 w] none), some (.cells cs (some 2)), some (.cells [.int .i64 a, .int .u64 x] none), some (.cells [.int .i64 (xmn (xmx (xar .sub .i64 96 ↑m) 0) 96), .slo 15 0 1 0] none), some (.cells [.int .i64 a, .int .u64 x] none), some (.cells [.int .i64 a, .int .u64 x] none), some (.cells [.int .i64 a, .int .u64 x] (some 2)), some .dead, some (.cells [.int .i64 96, .slo 20 0 (xadd m 1) 0] none), some (.cells [.int .i64 a, .int .u64 x] none), some (.cells [.int .i64 a, .int .u64 x] none), some (.cells (xcat (xcut ds 0 (xmul m 2)) [.int .i64 a, .int .u64 x]) (some 2)), some (.cells [.int .i64 a, .int .u64 (asI (nthD cs (xadd (xix 0 (xnat j) 2) 1)))] none), some (.cells (xcat (xcut cs 0 (xmul n 2)) [.int .i64 a, .int .u64 (asI (nthD cs (xadd (xix 0 (xnat j) 2) 1)))]) (some 2))] [])
                else (
                 bif xnn a then
                 bif xle (xadd (xnat a) 1) 256 then
                 bif xle (xadd (xix 0 (xnat a) 1) 1) (xln (xlay so (xix 0 (xnat a) 1) [.int .i64 ↑(xadd n 1)])) then
                 bif isI .i64 (nthD (xlay so (xix 0 (xnat a) 1) [.int .i64 ↑(xadd n 1)]) (xix 0 (xnat a) 1)) then
                 bif xcm .gtr (asI (nthD (xlay so (xix 0 (xnat a) 1) [.int .i64 ↑(xadd n 1)]) (xix 0 (xnat a) 1))) 0 then (
                  bif xnn (xar .sub .i64 (asI (nthD (xlay so (xix 0 (xnat a) 1) [.int .i64 ↑(xadd n 1)]) (xix 0 (xnat a) 1))) 1) then
                  bif xle (xadd (xnat (xar .sub .i64 (asI (nthD (xlay so (xix 0 (xnat a) 1) [.int .i64 ↑(xadd n 1)]) (xix 0 (xnat a) 1))) 1)) 1) (xadd n 1) then
                  bif xle (xadd (xadd (xix 0 (xnat (xar .sub .i64 (asI (nthD (xlay so (xix 0 (xnat a) 1) [.int .i64 ↑(xadd n 1)]) (xix 0 (xnat a) 1))) 1)) 2) 1) 1) (xln (xcat (xcut cs 0 (xmul n 2)) [.int .i64 a, .int .u64 (asI (nthD cs (xadd (xix 0 (xnat j) 2) 1)))])) then
                  bif isI .u64 (nthD (xcat (xcut cs 0 (xmul n 2)) [.int .i64 a, .int .u64 (asI (nthD cs (xadd (xix 0 (xnat j) 2) 1)))]) (xadd (xix 0 (xnat (xar .sub .i64 (asI (nthD (xlay so (xix 0 (xnat a) 1) [.int .i64 ↑(xadd n 1)]) (xix 0 (xnat a) 1))) 1)) 2) 1)) then
                  bif xcm .neq (asI (nthD (xcat (xcut cs 0 (xmul n 2)) [.int .i64 a, .int .u64 (asI (nthD cs (xadd (xix 0 (xnat j) 2) 1)))]) (xadd (xix 0 (xnat (xar .sub .i64 (asI (nthD (xlay so (xix 0 (xnat a) 1) [.int .i64 ↑(xadd n 1)]) (xix 0 (xnat a) 1))) 1)) 2) 1))) (xar .add .u64 (asI (nthD cs (xadd (xix 0 (xnat j) 2) 1))) 1) then (
                   bif xle (xadd n 1) 1000000 then
                   bif xeq (xln (xcat (xcut cs 0 (xmul n 2)) [.int .i64 a, .int .u64 (asI (nthD cs (xadd (xix 0 (xnat j) 2) 1)))])) (xmul (xadd n 1) 2) then
                   bif xnoid (xcat (xcut cs 0 (xmul n 2)) [.int .i64 a, .int .u64 (asI (nthD cs (xadd (xix 0 (xnat j) 2) 1)))]) then
                   bif okC (xcat (xcut cs 0 (xmul n 2)) [.int .i64 a, .int .u64 (asI (nthD cs (xadd (xix 0 (xnat j) 2) 1)))]) (xadd n 1) then
                   bif okC cs n then
                   bif xnot (sameCC (xadd n 1) n (xcat (xcut cs 0 (xmul n 2)) [.int .i64 a, .int .u64 (asI (nthD cs (xadd (xix 0 (xnat j) 2) 1)))]) cs) then (
                    K .ret [.slo 0 0 n0 0, .int .u64 x, .bool false, .ptr 1 0, .int .i64 ↑i, .ptr 9 0, .any, .slo 10 0 n 0, .int .i64 j] [some (.ro va), some (.cells [.slo 22 0 (xadd n 1) 0, .sl 3 0 256 256, .int .i64 nd, .ptr 4 0] none), some .dead, some (.cells (xlay so (xix 0 (xnat a) 1) [.int .i64 ↑(xadd n 1)]) none), some (.cells [.int .i64 96, .sl 5 0 1 1] none), some (.cells [.ptr 6 0] none), some (.cells [.ptr 7 0, .nils] none), some (.cells [.int .i64 96, .slo 20 0 (xadd m 1) 0] none), some (.cells ds (some 2)), some (.cells [.int .i64 a, .int .u64 w] none), some (.cells cs (some 2)), some (.cells [.int .i64 a, .int .u64 x] none), some (.cells [.int .i64 (xmn (xmx (xar .sub .i64 96 ↑m) 0) 96), .slo 15 0 1 0] none), some (.cells [.int .i64 a, .int .u64 x] none), some (.cells [.int .i64 a, .int .u64 x] none), some (.cells [.int .i64 a, .int .u64 x] (some 2)), some .dead, some (.cells [.int .i64 96, .slo 20 0 (xadd m 1) 0] none), some (.cells [.int .i64 a, .int .u64 x] none), some (.cells [.int .i64 a, .int .u64 x] none), some (.cells (xcat (xcut ds 0 (xmul m 2)) [.int .i64 a, .int .u64 x]) (some 2)), some (.cells [.int .i64 a, .int .u64 (asI (nthD cs (xadd (xix 0 (xnat j) 2) 1)))] none), some (.cells (xcat (xcut cs 0 (xmul n 2)) [.int .i64 a, .int .u64 (asI (nthD cs (xadd (xix 0 (xnat j) 2) 1)))]) (some 2)), some (.cells (xcat (xcut cs 0 (xmul n 2)) [.int .i64 a, .int .u64 (asI (nthD cs (xadd (xix 0 (xnat j) 2) 1)))]) (some 2))] [])
                   else (
                    K .normal [.slo 0 0 n0 0, .int .u64 x, .any, .ptr 1 0, .int .i64 ↑i, .ptr 9 0, .any, .slo 10 0 n 0, .int .i64 j] [some (.ro va), some (.cells [.slo 22 0 (xadd n 1) 0, .sl 3 0 256 256, .int .i64 nd, .ptr 4 0] none), some .dead, some (.cells (xlay so (xix 0 (xnat a) 1) [.int .i64 ↑(xadd n 1)]) none), some (.cells [.int .i64 96, .sl 5 0 1 1] none), some (.cells [.ptr 6 0] none), some (.cells [.ptr 7 0, .nils] none), some (.cells [.int .i64 96, .slo 20 0 (xadd m 1) 0] none), some (.cells ds (some 2)), some (.cells [.int .i64 a, .int .u64 w] none), some (.cells cs (some 2)), some (.cells [.int .i64 a, .int .u64 x] none), some (.cells [.int .i64 (xmn (xmx (xar .sub .i64 96 ↑m) 0) 96), .slo 15 0 1 0] none), some (.cells [.int .i64 a, .int .u64 x] none), some (.cells [.int .i64 a, .int .u64 x] none), some (.cells [.int .i64 a, .int .u64 x] (some 2)), some .dead, some (.cells [.int .i64 96, .slo 20 0 (xadd m 1) 0] none), some (.cells [.int .i64 a, .int .u64 x] none), some (.cells [.int .i64 a, .int .u64 x] none), some (.cells (xcat (xcut ds 0 (xmul m 2)) [.int .i64 a, .int .u64 x]) (some 2)), some (.cells [.int .i64 a, .int .u64 (asI (nthD cs (xadd (xix 0 (xnat j) 2) 1)))] none), some (.cells (xcat (xcut cs 0 (xmul n 2)) [.int .i64 a, .int .u64 (asI (nthD cs (xadd (xix 0 (xnat j) 2) 1)))]) (some 2)), some (.cells (xcat (xcut cs 0 (xmul n 2)) [.int .i64 a, .int .u64 (asI (nthD cs (xadd (xix 0 (xnat j) 2) 1)))]) (some 2))] [])
                   else False
                   else False
                   else False
                   else False
                   else False)
                  else (
                   K .ret [.slo 0 0 n0 0, .int .u64 x, .bool false, .ptr 1 0, .int .i64 ↑i, .ptr 9 0, .any, .slo 10 0 n 0, .int .i64 j] [some (.ro va), some (.cells [.slo 22 0 (xadd n 1) 0, .sl 3 0 256 256, .int .i64 nd, .ptr 4 0] none), some .dead, some (.cells (xlay so (xix 0 (xnat a) 1) [.int .i64 ↑(xadd n 1)]) none), some (.cells [.int .i64 96, .sl 5 0 1 1] none), some (.cells [.ptr 6 0] none), some (.cells [.ptr 7 0, .nils] none), some (.cells [.int .i64 96, .slo 20 0 (xadd m 1) 0] none), some (.cells ds (some 2)), some (.cells [.int .i64 a, .int .u64 w] none), some (.cells cs (some 2)), some (.cells [.int .i64 a, .int .u64 x] none), some (.cells [.int .i64 (xmn (xmx (xar .sub .i64 96 ↑m) 0) 96), .slo 15 0 1 0] none), some (.cells [.int .i64 a, .int .u64 x] none), some (.cells [.int .i64 a, .int .u64 x] none), some (.cells [.int .i64 a, .int .u64 x] (some 2)), some .dead, some (.cells [.int .i64 96, .slo 20 0 (xadd m 1) 0] none), some (.cells [.int .i64 a, .int .u64 x] none), some (.cells [.int .i64 a, .int .u64 x] none), some (.cells (xcat (xcut ds 0 (xmul m 2)) [.int .i64 a, .int .u64 x]) (some 2)), some (.cells [.int .i64 a, .int .u64 (asI (nthD cs (xadd (xix 0 (xnat j) 2) 1)))] none), some (.cells (xcat (xcut cs 0 (xmul n 2)) [.int .i64 a, .int .u64 (asI (nthD cs (xadd (xix 0 (xnat j) 2) 1)))]) (some 2))] [])
                  else False
                  else False
                  else False
                  else False)
                 else (
                  bif xle (xadd (xadd n 1) 1) 1000000 then
                  bif xle (xadd 0 (xmul (xadd n 1) 2)) (xln (xcat (xcut cs 0 (xmul n 2)) [.int .i64 a, .int .u64 (asI (nthD cs (xadd (xix 0 (xnat j) 2) 1)))])) then
                  bif xnn a then
                  bif xle (xadd (xnat a) 1) 256 then
                  bif xle (xadd (xix 0 (xnat a) 1) 1) (xln (xlay so (xix 0 (xnat a) 1) [.int .i64 ↑(xadd n 1)])) then
                  K .ret [.slo 0 0 n0 0, .int .u64 x, .bool false, .ptr 1 0, .int .i64 ↑i, .ptr 9 0, .any, .slo 10 0 n 0, .int .i64 j] [some (.ro va), some (.cells [.slo 24 0 (xadd (xadd n 1) 1) 0, .sl 3 0 256 256, .int .i64 nd, .ptr 4 0] none), some .dead, some (.cells (xlay (xlay so (xix 0 (xnat a) 1) [.int .i64 ↑(xadd n 1)]) (xix 0 (xnat a) 1) [.int .i64 ↑(xadd (xadd n 1) 1)]) none), some (.cells [.int .i64 96, .sl 5 0 1 1] none), some (.cells [.ptr 6 0] none), some (.cells [.ptr 7 0, .nils] none), some (.cells [.int .i64 96, .slo 20 0 (xadd m 1) 0] none), some (.cells ds (some 2)), some (.cells [.int .i64 a, .int .u64 w] none), some (.cells cs (some 2)), some (.cells [.int .i64 a, .int .u64 x] none), some (.cells [.int .i64 (xmn (xmx (xar .sub .i64 96 ↑m) 0) 96), .slo 15 0 1 0] none), some (.cells [.int .i64 a, .int .u64 x] none), some (.cells [.int .i64 a, .int .u64 x] none), some (.cells [.int .i64 a, .int .u64 x] (some 2)), some .dead, some (.cells [.int .i64 96, .slo 20 0 (xadd m 1) 0] none), some (.cells [.int .i64 a, .int .u64 x] none), some (.cells [.int .i64 a, .int .u64 x] none), some (.cells (xcat (xcut ds 0 (xmul m 2)) [.int .i64 a, .int .u64 x]) (some 2)), some (.cells [.int .i64 a, .int .u64 (asI (nthD cs (xadd (xix 0 (xnat j) 2) 1)))] none), some .dead, some (.cells [.int .i64 a, .int .u64 (xar .add .u64 (asI (nthD cs (xadd (xix 0 (xnat j) 2) 1))) 1)] none), some (.cells (xcat (xcut (xcat (xcut cs 0 (xmul n 2)) [.int .i64 a, .int .u64 (asI (nthD cs (xadd (xix 0 (xnat j) 2) 1)))]) 0 (xmul (xadd n 1) 2)) [.int .i64 a, .int .u64 (xar .add .u64 (asI (nthD cs (xadd (xix 0 (xnat j) 2) 1))) 1)]) (some 2))] []
                  else False
                  else False
                  else False
                  else False
                  else False)
                 else False
                 else False
                 else False
                 else False))
               else (
                K .ret [.slo 0 0 n0 0, .int .u64 x, .bool false, .ptr 1 0, .int .i64 ↑i, .ptr 9 0, .any, .slo 10 0 n 0, .int .i64 j] [some (.ro va), some (.cells [.slo 22 0 (xadd n 1) 0, .sl 3 0 256 256, .int .i64 nd, .ptr 4 0] none), some .dead, some (.cells (xlay so (xix 0 (xnat a) 1) [.int .i64 ↑(xadd n 1)]) none), some (.cells [.int .i64 96, .sl 5 0 1 1] none), some (.cells [.ptr 6 0] none), some (.cells [.ptr 7 0, .nils] none), some (.cells [.int .i64 96, .slo 20 0 (xadd m 1) 0] none), some (.cells ds (some 2)), some (.cells [.int .i64 a, .int .u64 w] none), some (.cells cs (some 2)), some (.cells [.int .i64 a, .int .u64 x] none), some (.cells [.int .i64 (xmn (xmx (xar .sub .i64 96 ↑m) 0) 96), .slo 15 0 1 0] none), some (.cells [.int .i64 a, .int .u64 x] none), some (.cells [.int .i64 a, .int .u64 x] none), some (.cells [.int .i64 a, .int .u64 x] (some 2)), some .dead, some (.cells [.int .i64 96, .slo 20 0 (xadd m 1) 0] none), some (.cells [.int .i64 a, .int .u64 x] none), some (.cells [.int .i64 a, .int .u64 x] none), some (.cells (xcat (xcut ds 0 (xmul m 2)) [.int .i64 a, .int .u64 x]) (some 2)), some (.cells [.int .i64 a, .int .u64 (asI (nthD cs (xadd (xix 0 (xnat j) 2) 1)))] none), some (.cells (xcat (xcut cs 0 (xmul n 2)) [.int .i64 a, .int .u64 (asI (nthD cs (xadd (xix 0 (xnat j) 2) 1)))]) (some 2))] [])
               else False
               else False
               else False
               else False
               else False
               else False
               else False
               else False
               else False)
              else False
              else False
              else False
              else False))
            else (
             K .ret [.slo 0 0 n0 0, .int .u64 x, .bool false, .ptr 1 0, .int .i64 ↑i, .ptr 9 0, .any, .slo 10 0 n 0, .int .i64 j] [some (.ro va), some (.cells [.slo 2 0 n 0, .sl 3 0 256 256, .int .i64 nd, .ptr 4 0] none), some (.cells cs (some 2)), some (.cells so none), some (.cells [.int .i64 96, .sl 5 0 1 1] none), some (.cells [.ptr 6 0] none), some (.cells [.ptr 7 0, .nils] none), some (.cells [.int .i64 96, .slo 20 0 (xadd m 1) 0] none), some (.cells ds (some 2)), some (.cells [.int .i64 a, .int .u64 w] none), some (.cells cs (some 2)), some (.cells [.int .i64 a, .int .u64 x] none), some (.cells [.int .i64 (xmn (xmx (xar .sub .i64 96 ↑m) 0) 96), .slo 15 0 1 0] none), some (.cells [.int .i64 a, .int .u64 x] none), some (.cells [.int .i64 a, .int .u64 x] none), some (.cells [.int .i64 a, .int .u64 x] (some 2)), some .dead, some (.cells [.int .i64 96, .slo 20 0 (xadd m 1) 0] none), some (.cells [.int .i64 a, .int .u64 x] none), some (.cells [.int .i64 a, .int .u64 x] none), some (.cells (xcat (xcut ds 0 (xmul m 2)) [.int .i64 a, .int .u64 x]) (some 2))] [])
            else False
            else False
            else False
            else False
            else False
            else False))
          else False))
        else False
        else False
        else False))))
    else False))
  else (
   K .ret [.slo 0 0 n0 0, .int .u64 x, .bool false, .ptr 1 0, .int .i64 ↑i, .ptr 9 0, .any, .slo 10 0 n 0, .int .i64 j] [some (.ro va), some (.cells [.slo 2 0 n 0, .sl 3 0 256 256, .int .i64 nd, .ptr 4 0] none), some (.cells cs (some 2)), some (.cells so none), some (.cells [.int .i64 96, .sl 5 0 1 1] none), some (.cells [.ptr 6 0] none), some (.cells [.ptr 7 0, .nils] none), some (.cells [.int .i64 96, .slo 8 0 m 0] none), some (.cells ds (some 2)), some (.cells [.int .i64 a, .int .u64 w] none), some (.cells cs (some 2))] [])) := by kernel_rfl
theorem ws_g (n0 i n m : Nat) (x nd : Int) (va cs so ds : List LV) (K : Pk) : (xsp Go.Proofs.Try.prog cxw 100 125 ((spineL (loopOf (nthC (sp Go.Proofs.Try.prog 7) 7))).drop 3) (mkTm 125 (wsT n0 x i)) (mkS (wsH va n nd cs so m ds)) (vK wsL K)) = (
  K .normal [.slo 0 0 n0 0, .int .u64 x, .any, .ptr 1 0, .int .i64 (xar .add .i64 (↑i) 1), .any, .any, .any, .any] [some (.ro va), some (.cells [.slo 2 0 n 0, .sl 3 0 256 256, .int .i64 nd, .ptr 4 0] none), some (.cells cs (some 2)), some (.cells so none), some (.cells [.int .i64 96, .sl 5 0 1 1] none), some (.cells [.ptr 6 0] none), some (.cells [.ptr 7 0, .nils] none), some (.cells [.int .i64 96, .slo 8 0 m 0] none), some (.cells ds (some 2))] []) := by kernel_rfl
theorem ws_z (n0 i n m : Nat) (x nd : Int) (va cs so ds : List LV) (K : Pk) : (xsp Go.Proofs.Try.prog cxw 100 125 ((sp Go.Proofs.Try.prog 7).drop 8) (mkTm 125 (wsT n0 x i)) (mkS (wsH va n nd cs so m ds)) (vK wsL K)) = (
  bif xle n 1000000 then
  bif xeq (xln cs) (xmul n 2) then
  bif xnoid cs then
  K .ret [.slo 0 0 n0 0, .int .u64 x, .bool (xcm .leq ↑n ↑n0), .ptr 1 0, .int .i64 ↑i, .any, .any, .any, .any] [some (.ro va), some (.cells [.slo 2 0 n 0, .sl 3 0 256 256, .int .i64 nd, .ptr 4 0] none), some (.cells cs (some 2)), some (.cells so none), some (.cells [.int .i64 96, .sl 5 0 1 1] none), some (.cells [.ptr 6 0] none), some (.cells [.ptr 7 0, .nils] none), some (.cells [.int .i64 96, .slo 8 0 m 0] none), some (.cells ds (some 2)), some (.cells cs (some 2))] []
  else False
  else False
  else False) := by kernel_rfl
end
end Go.Lev
