/- LimboPlays: the trees of the law -/
import Derived.Test.YtjjmgfclenbgfaaCW4
import Derived.Test.YtjjmgfclenbgfaaLc
import Derived.Test.YtjjmgfclenbgfaaChecked
import Derived.KernelRfl

namespace Go.Lev
open Go.RowKit
set_option linter.unusedVariables false
set_option linter.unusedSimpArgs false
set_option maxRecDepth 100000
noncomputable section
def cxw : Cx := cxl [(3, wrapG runG), (8, wrapG ripGC), (7, wrapG adGC), (11, wrapG rripG), (14, wrapG (cloneG 2)), (12, wrapG sameCRestG)]
abbrev lpL : List Nat := [0, 2, 3, 4, 5, 6, 9, 40]
abbrev lpT (n i k : Nat) : List (Nat × LV) := [(0, .slo 0 0 n 0), (3, .ptr 1 0), (4, .slo 3 0 k 0), (5, .int .i64 i)]
abbrev lpU (n i k : Nat) : List (Nat × LV) := [(0, .slo 0 0 n 0), (3, .ptr 1 0), (4, .slo 3 0 k 0), (5, .int .i64 i), (6, .ptr 4 0)]
abbrev lpV (n i k : Nat) (rp : Bool) : List (Nat × LV) := [(0, .slo 0 0 n 0), (3, .ptr 1 0), (4, .slo 3 0 k 0), (5, .int .i64 i), (6, .ptr 4 0), (40, .bool rp)]
abbrev lpX (n i k j : Nat) : List (Nat × LV) := [(0, .slo 0 0 n 0), (3, .ptr 1 0), (4, .slo 3 0 k 0), (5, .int .i64 i), (6, .ptr 4 0), (9, .int .i64 j)]
abbrev lpH (k : Nat) (ax cs : List LV) : List LB := [.ro ax, .cells [.slo 2 0 k 0] none, .cells cs (some 2), .cells cs (some 2)]
abbrev lpI (k : Nat) (ax cs : List LV) (rp : Bool) (st : Int) (v1 v2 : Value) : List LB := [.ro ax, .cells [.slo 2 0 k 0] none, .cells cs (some 2), .cells cs (some 2), .cells [.bool rp, .int .u64 st, .val v1, .val v2] none]
abbrev lpI2 (k n1 : Nat) (ax cs bs : List LV) (rp : Bool) (st : Int) (v2 : Value) : List LB := [.ro ax, .cells [.slo 2 0 k 0] none, .cells cs (some 2), .cells cs (some 2), .cells [.bool rp, .int .u64 st, .slo 5 0 n1 0, .val v2] none, .ro bs]
abbrev lpJ (k n1 n2 : Nat) (ax cs os bs ss : List LV) (rp : Bool) (st : Int) : List LB := [.ro ax, .cells [.slo 2 0 k 0] none, .cells cs (some 2), .cells os (some 2), .cells [.bool rp, .int .u64 st, .slo 5 0 n1 0, .slo 6 0 n2 0] none, .ro bs, .ro ss]
theorem lp_a (n : Nat) (ax : List LV) (g : Glb) (K : Pk) : (xsp Go.Proofs.Try.prog cxw 40 92 (seg (sp Go.Proofs.Try.prog 4) 0 8) (tm0 [.slo 0 0 n 0]) (mkS [.ro ax] g) (vK lpL K)) = (
  K .normal [.slo 0 0 n 0, .bool false, .ptr 1 0, .nils, .int .i64 0, .tup [], .tup [], .tup []] [some (.ro ax), some (.cells [.nils] none)] g) := by kernel_rfl
theorem lp_b (n i k : Nat) (ax cs : List LV) (g : Glb) (K : Pk) : (xsp Go.Proofs.Try.prog cxw 40 92 (seg (spineL (loopOf (nthC (sp Go.Proofs.Try.prog 4) 8))) 0 2) (mkTm 92 (lpT n i k)) (mkS (lpH k ax cs) g) (vK lpL K)) = (
  bif xcm .lss ↑i ↑n then (
   bif xcm .lss (↑i) 40 then (
    K .normal [.slo 0 0 n 0, .any, .ptr 1 0, .slo 3 0 k 0, .int .i64 ↑i, .any, .any, .any] [some (.ro ax), some (.cells [.slo 2 0 k 0] none), some (.cells cs (some 2)), some (.cells cs (some 2))] g)
   else (
    K (.exit 0) [.slo 0 0 n 0, .any, .ptr 1 0, .slo 3 0 k 0, .int .i64 ↑i, .any, .any, .any] [some (.ro ax), some (.cells [.slo 2 0 k 0] none), some (.cells cs (some 2)), some (.cells cs (some 2))] g))
  else (
   K (.exit 0) [.slo 0 0 n 0, .any, .ptr 1 0, .slo 3 0 k 0, .int .i64 ↑i, .any, .any, .any] [some (.ro ax), some (.cells [.slo 2 0 k 0] none), some (.cells cs (some 2)), some (.cells cs (some 2))] g)) := by kernel_rfl
theorem lp_c (n i k : Nat) (ax cs : List LV) (g : Glb) (K : Pk) : (xsp Go.Proofs.Try.prog cxw 40 92 (seg (spineL (blockIn (nthC (spineL (loopOf (nthC (sp Go.Proofs.Try.prog 4) 8))) 2))) 0 1) (mkTm 92 (lpT n i k)) (mkS (lpH k ax cs) g) (vK lpL K)) = (
  bif xle (xadd (xnat ↑i) 1) n then
  bif xle (xadd (xix 0 (xnat ↑i) 4) 4) (xln ax) then
  bif isB (nthD ax (xix 0 (xnat ↑i) 4)) then
  bif isI .u64 (nthD ax (xadd (xix 0 (xnat ↑i) 4) 1)) then
  bif isV (nthD ax (xadd (xadd (xix 0 (xnat ↑i) 4) 1) 1)) then
  bif isV (nthD ax (xadd (xadd (xadd (xix 0 (xnat ↑i) 4) 1) 1) 1)) then
  K .normal [.slo 0 0 n 0, .any, .ptr 1 0, .slo 3 0 k 0, .int .i64 ↑i, .ptr 4 0, .any, .any] [some (.ro ax), some (.cells [.slo 2 0 k 0] none), some (.cells cs (some 2)), some (.cells cs (some 2)), some (.cells [.bool (asB (nthD ax (xix 0 (xnat ↑i) 4))), .int .u64 (asI (nthD ax (xadd (xix 0 (xnat ↑i) 4) 1))), .val (asV (nthD ax (xadd (xadd (xix 0 (xnat ↑i) 4) 1) 1))), .val (asV (nthD ax (xadd (xadd (xadd (xix 0 (xnat ↑i) 4) 1) 1) 1)))] none)] g
  else False
  else False
  else False
  else False
  else False
  else False) := by kernel_rfl
theorem lp_d (n i k n1 n2 : Nat) (ax cs bs ss : List LV) (rp : Bool) (st : Int) (g : Glb) (K : Pk) : (xsp Go.Proofs.Try.prog cxw 40 92 (seg (spineL (blockIn (nthC (spineL (loopOf (nthC (sp Go.Proofs.Try.prog 4) 8))) 2))) 1 3) (mkTm 92 (lpU n i k)) (mkS (lpJ k n1 n2 ax cs cs bs ss rp st) g) (vK lpL K)) = (
  bif xcm .gtr (↑n1) 30 then (
   K .ret [.slo 0 0 n 0, .bool true, .ptr 1 0, .slo 3 0 k 0, .int .i64 ↑i, .ptr 4 0, .any, .any] [some (.ro ax), some (.cells [.slo 2 0 k 0] none), some (.cells cs (some 2)), some (.cells cs (some 2)), some (.cells [.bool rp, .int .u64 st, .slo 5 0 n1 0, .slo 6 0 n2 0] none), some (.ro bs), some (.ro ss)] g)
  else (
   bif xcm .gtr (↑n2) 30 then (
    K .ret [.slo 0 0 n 0, .bool true, .ptr 1 0, .slo 3 0 k 0, .int .i64 ↑i, .ptr 4 0, .any, .any] [some (.ro ax), some (.cells [.slo 2 0 k 0] none), some (.cells cs (some 2)), some (.cells cs (some 2)), some (.cells [.bool rp, .int .u64 st, .slo 5 0 n1 0, .slo 6 0 n2 0] none), some (.ro bs), some (.ro ss)] g)
   else (
    K .normal [.slo 0 0 n 0, .any, .ptr 1 0, .slo 3 0 k 0, .int .i64 ↑i, .ptr 4 0, .any, .bool rp] [some (.ro ax), some (.cells [.slo 2 0 k 0] none), some (.cells cs (some 2)), some (.cells cs (some 2)), some (.cells [.bool rp, .int .u64 st, .slo 5 0 n1 0, .slo 6 0 n2 0] none), some (.ro bs), some (.ro ss)] g))) := by kernel_rfl
theorem lp_t (n i k n1 n2 : Nat) (ax cs bs ss : List LV) (st : Int) (g : Glb) (K : Pk) : (xcode Go.Proofs.Try.prog cxw 40 92 (nthC (spineL (blockIn (nthC (spineL (loopOf (nthC (sp Go.Proofs.Try.prog 4) 8))) 2))) 4) (mkTm 92 (lpV n i k true)) (mkS (lpJ k n1 n2 ax cs cs bs ss true st) g) (vK lpL K)) = (
  bif okC cs k then
  bif okIu64 ss n2 then
  bif xle (xadd k 1) 1000000 then
  bif okC cs k then
  bif okIu64 ss n2 then
  bif xle (xadd k 1) 1000000 then
  bif okC (ripC cs ss) (ripN cs ss) then
  bif okC (ripC cs ss) (ripN cs ss) then
  bif xnot (sameCRest (ripN cs ss) (ripN cs ss) (ripC cs ss) (ripC cs ss)) then (
   K .ret [.slo 0 0 n 0, .bool false, .ptr 1 0, .slo 3 0 k 0, .int .i64 ↑i, .ptr 4 0, .any, .bool true] [some (.ro ax), some (.cells [.slo 10 0 (rstN cs ss) 0] none), some .dead, some (.cells cs (some 2)), some (.cells [.bool true, .int .u64 st, .slo 5 0 n1 0, .slo 6 0 n2 0] none), some (.ro bs), some (.ro ss), some (.cells (ripC cs ss) (some 2)), some (.cells (rstC cs ss) (some 2)), some (.cells (ripC cs ss) (some 2)), some (.cells (rstC cs ss) (some 2))] g)
  else (
   K .normal [.slo 0 0 n 0, .any, .ptr 1 0, .slo 8 0 (rstN cs ss) 0, .int .i64 ↑i, .ptr 4 0, .any, .bool true] [some (.ro ax), some (.cells [.slo 10 0 (rstN cs ss) 0] none), some .dead, some (.cells cs (some 2)), some (.cells [.bool true, .int .u64 st, .slo 5 0 n1 0, .slo 6 0 n2 0] none), some (.ro bs), some (.ro ss), some (.cells (ripC cs ss) (some 2)), some (.cells (rstC cs ss) (some 2)), some (.cells (ripC cs ss) (some 2)), some (.cells (rstC cs ss) (some 2))] g)
  else False
  else False
  else False
  else False
  else False
  else False
  else False
  else False) := by kernel_rfl
theorem lp_f (n i k n1 n2 : Nat) (ax cs bs ss : List LV) (st : Int) (g : Glb) (K : Pk) : (xsp Go.Proofs.Try.prog cxw 40 92 (seg (spineL (condF (nthC (spineL (blockIn (nthC (spineL (loopOf (nthC (sp Go.Proofs.Try.prog 4) 8))) 2))) 4))) 0 2) (mkTm 92 (lpV n i k false)) (mkS (lpJ k n1 n2 ax cs cs bs ss false st) g) (vK lpL K)) = (
  bif okC cs k then
  bif okIi64 bs n1 then
  bif xle (xadd (xadd k n1) 1) 1000000 then
  K .normal [.slo 0 0 n 0, .any, .ptr 1 0, .slo 3 0 k 0, .int .i64 ↑i, .ptr 4 0, .int .i64 0, .bool false] [some (.ro ax), some (.cells [.slo 7 0 (xadd k n1) 0] none), some .dead, some (.cells cs (some 2)), some (.cells [.bool false, .int .u64 st, .slo 5 0 n1 0, .slo 6 0 n2 0] none), some (.ro bs), some (.ro ss), some (.cells (addC cs bs st) (some 2))] g
  else False
  else False
  else False) := by kernel_rfl
theorem lp_g (n i k h j n1 n2 : Nat) (ax cs os bs ss : List LV) (st : Int) (g : Glb) (K : Pk) : (xcode Go.Proofs.Try.prog cxw 40 92 (loopOf (nthC (spineL (condF (nthC (spineL (blockIn (nthC (spineL (loopOf (nthC (sp Go.Proofs.Try.prog 4) 8))) 2))) 4))) 2)) (mkTm 92 (lpX n i k j)) (mkS (lpJ h n1 n2 ax cs os bs ss false st) g) (vK lpL K)) = (
  bif xcm .lss ↑j ↑n1 then (
   bif xle (xadd (xnat ↑j) 1) n1 then
   bif xle (xadd (xix 0 (xnat ↑j) 1) 1) (xln bs) then
   bif isI .i64 (nthD bs (xix 0 (xnat ↑j) 1)) then
   bif xle (xadd k 1) 1000000 then
   bif xle (xadd 0 (xmul k 2)) (xln os) then
   K .normal [.slo 0 0 n 0, .any, .ptr 1 0, .slo 8 0 (xadd k 1) 0, .int .i64 ↑i, .ptr 4 0, .int .i64 (xar .add .i64 (↑j) 1), .any] [some (.ro ax), some (.cells [.slo 2 0 h 0] none), some (.cells cs (some 2)), some .dead, some (.cells [.bool false, .int .u64 st, .slo 5 0 n1 0, .slo 6 0 n2 0] none), some (.ro bs), some (.ro ss), some (.cells [.int .i64 (asI (nthD bs (xix 0 (xnat ↑j) 1))), .int .u64 st] none), some (.cells (xcat (xcut os 0 (xmul k 2)) [.int .i64 (asI (nthD bs (xix 0 (xnat ↑j) 1))), .int .u64 st]) (some 2))] g
   else False
   else False
   else False
   else False
   else False)
  else (
   K (.exit 2) [.slo 0 0 n 0, .any, .ptr 1 0, .slo 3 0 k 0, .int .i64 ↑i, .ptr 4 0, .int .i64 ↑j, .any] [some (.ro ax), some (.cells [.slo 2 0 h 0] none), some (.cells cs (some 2)), some (.cells os (some 2)), some (.cells [.bool false, .int .u64 st, .slo 5 0 n1 0, .slo 6 0 n2 0] none), some (.ro bs), some (.ro ss)] g)) := by kernel_rfl
theorem lp_h (n i k n1 n2 : Nat) (ax cs bs ss : List LV) (rp : Bool) (st : Int) (g : Glb) (K : Pk) : (xsp Go.Proofs.Try.prog cxw 40 92 ((spineL (blockIn (nthC (spineL (loopOf (nthC (sp Go.Proofs.Try.prog 4) 8))) 2))).drop 5) (mkTm 92 (lpU n i k)) (mkS (lpJ k n1 n2 ax cs cs bs ss rp st) g) (vK lpL K)) = (
  bif xle k 1000000 then
  bif xeq (xln cs) (xmul k 2) then
  bif xnoid cs then
  bif okC cs k then
  bif okC cs k then
  bif xnot (sameCRest k k cs cs) then (
   K .ret [.slo 0 0 n 0, .bool false, .ptr 1 0, .slo 3 0 k 0, .int .i64 ↑i, .ptr 4 0, .any, .any] [some (.ro ax), some (.cells [.slo 2 0 k 0] none), some (.cells cs (some 2)), some (.cells cs (some 2)), some (.cells [.bool rp, .int .u64 st, .slo 5 0 n1 0, .slo 6 0 n2 0] none), some (.ro bs), some (.ro ss), some (.cells cs (some 2))] g)
  else (
   bif xcm .neq ↑k ↑k then (
    K .ret [.slo 0 0 n 0, .bool false, .ptr 1 0, .slo 3 0 k 0, .int .i64 ↑i, .ptr 4 0, .any, .any] [some (.ro ax), some (.cells [.slo 2 0 k 0] none), some (.cells cs (some 2)), some (.cells cs (some 2)), some (.cells [.bool rp, .int .u64 st, .slo 5 0 n1 0, .slo 6 0 n2 0] none), some (.ro bs), some (.ro ss), some (.cells cs (some 2))] g)
   else (
    K .normal [.slo 0 0 n 0, .any, .ptr 1 0, .slo 3 0 k 0, .int .i64 ↑i, .ptr 4 0, .any, .any] [some (.ro ax), some (.cells [.slo 2 0 k 0] none), some (.cells cs (some 2)), some (.cells cs (some 2)), some (.cells [.bool rp, .int .u64 st, .slo 5 0 n1 0, .slo 6 0 n2 0] none), some (.ro bs), some (.ro ss), some (.cells cs (some 2))] g))
  else False
  else False
  else False
  else False
  else False) := by kernel_rfl
theorem lp_i (n i k : Nat) (ax cs : List LV) (g : Glb) (K : Pk) : (xsp Go.Proofs.Try.prog cxw 40 92 ((spineL (loopOf (nthC (sp Go.Proofs.Try.prog 4) 8))).drop 3) (mkTm 92 (lpT n i k)) (mkS (lpH k ax cs) g) (vK lpL K)) = (
  K .normal [.slo 0 0 n 0, .any, .ptr 1 0, .slo 3 0 k 0, .int .i64 (xar .add .i64 (↑i) 1), .any, .any, .any] [some (.ro ax), some (.cells [.slo 2 0 k 0] none), some (.cells cs (some 2)), some (.cells cs (some 2))] g) := by kernel_rfl
theorem lp_z (n i k : Nat) (ax cs : List LV) (g : Glb) (K : Pk) : (xsp Go.Proofs.Try.prog cxw 40 92 ((sp Go.Proofs.Try.prog 4).drop 9) (mkTm 92 (lpT n i k)) (mkS (lpH k ax cs) g) (vK lpL K)) = (
  K .ret [.slo 0 0 n 0, .bool true, .ptr 1 0, .slo 3 0 k 0, .int .i64 ↑i, .any, .any, .any] [some (.ro ax), some (.cells [.slo 2 0 k 0] none), some (.cells cs (some 2)), some (.cells cs (some 2))] g) := by kernel_rfl
end
end Go.Lev
