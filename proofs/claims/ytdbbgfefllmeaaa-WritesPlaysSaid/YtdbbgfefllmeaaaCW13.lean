/- WritesPlays: the trees of the law -/
import Derived.Test.YtdbbgfefllmeaaaCW12
import Derived.Test.YtdbbgfefllmeaaaLc
import Derived.Test.YtdbbgfefllmeaaaChecked
import Derived.KernelRfl

namespace Go.Lev
open Go.RowKit
set_option linter.unusedVariables false
set_option linter.unusedSimpArgs false
set_option maxRecDepth 100000
noncomputable section
def cxw : Cx := cxl [(3, wrapG runG), (15, wrapG nearG), (16, wrapG rtakeG), (17, wrapG takeG), (9, wrapG putG), (11, wrapG getG), (18, wrapG placeG), (24, wrapG (cloneG 2)), (19, wrapG sameG)]
abbrev wpL : List Nat := [1, 4, 5, 6, 7, 8, 9, 10, 11]
abbrev wpT (n i k : Nat) (m : Int) : List (Nat × LV) := [(1, .slo 0 0 n 0), (5, .ptr 1 0), (6, .int .i64 m), (7, .slo 3 0 k 0), (8, .int .i64 i)]
abbrev wpU (n i k : Nat) (m : Int) : List (Nat × LV) := [(1, .slo 0 0 n 0), (5, .ptr 1 0), (6, .int .i64 m), (7, .slo 3 0 k 0), (8, .int .i64 i), (9, .ptr 4 0)]
abbrev wpV (n i k kc j : Nat) (m : Int) : List (Nat × LV) := [(1, .slo 0 0 n 0), (5, .ptr 1 0), (6, .int .i64 m), (7, .slo 3 0 k 0), (8, .int .i64 i), (9, .ptr 4 0), (10, .slo 6 0 kc 0), (11, .int .i64 j)]
abbrev wpH (k : Nat) (m : Int) (ax cs : List LV) : List LB := [.ro ax, .cells [.int .i64 m, .slo 2 0 k 0] none, .cells cs (some 2), .cells cs (some 2)]
abbrev wpI (k : Nat) (m : Int) (ax cs : List LV) (tk : Bool) (a z : Int) (v : Value) : List LB := [.ro ax, .cells [.int .i64 m, .slo 2 0 k 0] none, .cells cs (some 2), .cells cs (some 2), .cells [.bool tk, .int .i64 a, .int .u64 z, .val v] none]
abbrev wpJ (k nl : Nat) (m : Int) (ax cs qs : List LV) (tk : Bool) (a z : Int) : List LB := [.ro ax, .cells [.int .i64 m, .slo 2 0 k 0] none, .cells cs (some 2), .cells cs (some 2), .cells [.bool tk, .int .i64 a, .int .u64 z, .slo 5 0 nl 0] none, .ro qs]
abbrev wpK (k nl : Nat) (m : Int) (ax cs qs ds : List LV) (tk : Bool) (a z : Int) : List LB := [.ro ax, .cells [.int .i64 m, .slo 2 0 k 0] none, .cells cs (some 2), .cells cs (some 2), .cells [.bool tk, .int .i64 a, .int .u64 z, .slo 5 0 nl 0] none, .ro qs, .cells ds (some 2)]
theorem wp_a (most : Int) (n : Nat) (ax : List LV) (g : Glb) (K : Pk) : (xsp Go.Proofs.Try.prog cxw 40 165 (seg (sp Go.Proofs.Try.prog 4) 0 9) (tm0 [.int .i64 most, .slo 0 0 n 0]) (mkS [.ro ax] g) (vK wpL K)) = (
  bif xcm .lss most 0 then (
   K .normal [.slo 0 0 n 0, .bool false, .ptr 1 0, .int .i64 0, .nils, .int .i64 0, .tup [], .tup [], .tup []] [some (.ro ax), some (.cells [.int .i64 (xmn (xmx most 0) 96), .nils] none)] g)
  else (
   bif xcm .gtr most 96 then (
    K .normal [.slo 0 0 n 0, .bool false, .ptr 1 0, .int .i64 96, .nils, .int .i64 0, .tup [], .tup [], .tup []] [some (.ro ax), some (.cells [.int .i64 (xmn (xmx most 0) 96), .nils] none)] g)
   else (
    K .normal [.slo 0 0 n 0, .bool false, .ptr 1 0, .int .i64 most, .nils, .int .i64 0, .tup [], .tup [], .tup []] [some (.ro ax), some (.cells [.int .i64 (xmn (xmx most 0) 96), .nils] none)] g))) := by kernel_rfl
theorem wp_b (n i k : Nat) (m : Int) (ax cs : List LV) (g : Glb) (K : Pk) : (xsp Go.Proofs.Try.prog cxw 40 165 (seg (spineL (loopOf (nthC (sp Go.Proofs.Try.prog 4) 9))) 0 2) (mkTm 165 (wpT n i k m)) (mkS (wpH k m ax cs) g) (vK wpL K)) = (
  bif xcm .lss ↑i ↑n then (
   bif xcm .lss (↑i) 40 then (
    K .normal [.slo 0 0 n 0, .any, .ptr 1 0, .int .i64 m, .slo 3 0 k 0, .int .i64 ↑i, .any, .any, .any] [some (.ro ax), some (.cells [.int .i64 m, .slo 2 0 k 0] none), some (.cells cs (some 2)), some (.cells cs (some 2))] g)
   else (
    K (.exit 0) [.slo 0 0 n 0, .any, .ptr 1 0, .int .i64 m, .slo 3 0 k 0, .int .i64 ↑i, .any, .any, .any] [some (.ro ax), some (.cells [.int .i64 m, .slo 2 0 k 0] none), some (.cells cs (some 2)), some (.cells cs (some 2))] g))
  else (
   K (.exit 0) [.slo 0 0 n 0, .any, .ptr 1 0, .int .i64 m, .slo 3 0 k 0, .int .i64 ↑i, .any, .any, .any] [some (.ro ax), some (.cells [.int .i64 m, .slo 2 0 k 0] none), some (.cells cs (some 2)), some (.cells cs (some 2))] g)) := by kernel_rfl
theorem wp_c (n i k : Nat) (m : Int) (ax cs : List LV) (g : Glb) (K : Pk) : (xsp Go.Proofs.Try.prog cxw 40 165 (seg (spineL (blockIn (nthC (spineL (loopOf (nthC (sp Go.Proofs.Try.prog 4) 9))) 2))) 0 1) (mkTm 165 (wpT n i k m)) (mkS (wpH k m ax cs) g) (vK wpL K)) = (
  bif xle (xadd (xnat ↑i) 1) n then
  bif xle (xadd (xix 0 (xnat ↑i) 4) 4) (xln ax) then
  bif isB (nthD ax (xix 0 (xnat ↑i) 4)) then
  bif isI .i64 (nthD ax (xadd (xix 0 (xnat ↑i) 4) 1)) then
  bif isI .u64 (nthD ax (xadd (xadd (xix 0 (xnat ↑i) 4) 1) 1)) then
  bif isV (nthD ax (xadd (xadd (xadd (xix 0 (xnat ↑i) 4) 1) 1) 1)) then
  K .normal [.slo 0 0 n 0, .any, .ptr 1 0, .int .i64 m, .slo 3 0 k 0, .int .i64 ↑i, .ptr 4 0, .any, .any] [some (.ro ax), some (.cells [.int .i64 m, .slo 2 0 k 0] none), some (.cells cs (some 2)), some (.cells cs (some 2)), some (.cells [.bool (asB (nthD ax (xix 0 (xnat ↑i) 4))), .int .i64 (asI (nthD ax (xadd (xix 0 (xnat ↑i) 4) 1))), .int .u64 (asI (nthD ax (xadd (xadd (xix 0 (xnat ↑i) 4) 1) 1))), .val (asV (nthD ax (xadd (xadd (xadd (xix 0 (xnat ↑i) 4) 1) 1) 1)))] none)] g
  else False
  else False
  else False
  else False
  else False
  else False) := by kernel_rfl
theorem wp_d (n i k nl : Nat) (m : Int) (ax cs qs : List LV) (tk : Bool) (a z : Int) (g : Glb) (K : Pk) : (xsp Go.Proofs.Try.prog cxw 40 165 (seg (spineL (blockIn (nthC (spineL (loopOf (nthC (sp Go.Proofs.Try.prog 4) 9))) 2))) 1 4) (mkTm 165 (wpU n i k m)) (mkS (wpJ k nl m ax cs qs tk a z) g) (vK wpL K)) = (
  bif xnot tk then (
   K .normal [.slo 0 0 n 0, .any, .ptr 1 0, .int .i64 m, .slo 3 0 k 0, .int .i64 ↑i, .ptr 4 0, .slo 7 0 1 0, .int .i64 0] [some (.ro ax), some (.cells [.int .i64 m, .slo 2 0 k 0] none), some (.cells cs (some 2)), some (.cells cs (some 2)), some (.cells [.bool tk, .int .i64 a, .int .u64 z, .slo 5 0 nl 0] none), some (.ro qs), some (.cells [.int .i64 (nearA a ↑i), .int .u64 z] none), some (.cells [.int .i64 (nearA a ↑i), .int .u64 z] (some 2))] g)
  else (
   K .normal [.slo 0 0 n 0, .any, .ptr 1 0, .int .i64 m, .slo 3 0 k 0, .int .i64 ↑i, .ptr 4 0, .nils, .int .i64 0] [some (.ro ax), some (.cells [.int .i64 m, .slo 2 0 k 0] none), some (.cells cs (some 2)), some (.cells cs (some 2)), some (.cells [.bool tk, .int .i64 a, .int .u64 z, .slo 5 0 nl 0] none), some (.ro qs)] g)) := by kernel_rfl
theorem wp_e (n i k nl kc j : Nat) (m : Int) (ax cs qs ds : List LV) (tk : Bool) (a z : Int) (g : Glb) (K : Pk) : (xcode Go.Proofs.Try.prog cxw 40 165 (loopOf (nthC (spineL (blockIn (nthC (spineL (loopOf (nthC (sp Go.Proofs.Try.prog 4) 9))) 2))) 5)) (mkTm 165 (wpV n i k kc j m)) (mkS (wpK k nl m ax cs qs ds tk a z) g) (vK wpL K)) = (
  bif tk then (
   bif xcm .lss ↑j ↑nl then (
    bif xcm .lss (↑j) 12 then (
     bif xle (xadd (xnat ↑j) 1) nl then
     bif xle (xadd (xix 0 (xnat ↑j) 2) 2) (xln qs) then
     bif isI .i64 (nthD qs (xix 0 (xnat ↑j) 2)) then
     bif isI .u64 (nthD qs (xadd (xix 0 (xnat ↑j) 2) 1)) then
     bif xle (xadd kc 1) 1000000 then
     bif xle (xadd 0 (xmul kc 2)) (xln ds) then
     K .normal [.slo 0 0 n 0, .any, .ptr 1 0, .int .i64 m, .slo 3 0 k 0, .int .i64 ↑i, .ptr 4 0, .slo 8 0 (xadd kc 1) 0, .int .i64 (xar .add .i64 (↑j) 1)] [some (.ro ax), some (.cells [.int .i64 m, .slo 2 0 k 0] none), some (.cells cs (some 2)), some (.cells cs (some 2)), some (.cells [.bool tk, .int .i64 a, .int .u64 z, .slo 5 0 nl 0] none), some (.ro qs), some .dead, some (.cells [.int .i64 (nearA (asI (nthD qs (xix 0 (xnat ↑j) 2))) (xar .add .i64 ↑i ↑j)), .int .u64 (asI (nthD qs (xadd (xix 0 (xnat ↑j) 2) 1)))] none), some (.cells (xcat (xcut ds 0 (xmul kc 2)) [.int .i64 (nearA (asI (nthD qs (xix 0 (xnat ↑j) 2))) (xar .add .i64 ↑i ↑j)), .int .u64 (asI (nthD qs (xadd (xix 0 (xnat ↑j) 2) 1)))]) (some 2))] g
     else False
     else False
     else False
     else False
     else False
     else False)
    else (
     K (.exit 2) [.slo 0 0 n 0, .any, .ptr 1 0, .int .i64 m, .slo 3 0 k 0, .int .i64 ↑i, .ptr 4 0, .slo 6 0 kc 0, .int .i64 ↑j] [some (.ro ax), some (.cells [.int .i64 m, .slo 2 0 k 0] none), some (.cells cs (some 2)), some (.cells cs (some 2)), some (.cells [.bool tk, .int .i64 a, .int .u64 z, .slo 5 0 nl 0] none), some (.ro qs), some (.cells ds (some 2))] g))
   else (
    K (.exit 2) [.slo 0 0 n 0, .any, .ptr 1 0, .int .i64 m, .slo 3 0 k 0, .int .i64 ↑i, .ptr 4 0, .slo 6 0 kc 0, .int .i64 ↑j] [some (.ro ax), some (.cells [.int .i64 m, .slo 2 0 k 0] none), some (.cells cs (some 2)), some (.cells cs (some 2)), some (.cells [.bool tk, .int .i64 a, .int .u64 z, .slo 5 0 nl 0] none), some (.ro qs), some (.cells ds (some 2))] g))
  else (
   K (.exit 2) [.slo 0 0 n 0, .any, .ptr 1 0, .int .i64 m, .slo 3 0 k 0, .int .i64 ↑i, .ptr 4 0, .slo 6 0 kc 0, .int .i64 ↑j] [some (.ro ax), some (.cells [.int .i64 m, .slo 2 0 k 0] none), some (.cells cs (some 2)), some (.cells cs (some 2)), some (.cells [.bool tk, .int .i64 a, .int .u64 z, .slo 5 0 nl 0] none), some (.ro qs), some (.cells ds (some 2))] g)) := by kernel_rfl
theorem wp_f (n i k nl kc j : Nat) (m : Int) (ax cs qs ds : List LV) (tk : Bool) (a z : Int) (g : Glb) (K : Pk) : (xsp Go.Proofs.Try.prog cxw 40 165 (seg (spineL (blockIn (nthC (spineL (loopOf (nthC (sp Go.Proofs.Try.prog 4) 9))) 2))) 6 4) (mkTm 165 (wpV n i k kc j m)) (mkS (wpK k nl m ax cs qs ds tk a z) g) (vK wpL K)) = (
  bif okC cs k then
  bif okC ds kc then
  bif xle (xadd k 1) 1000000 then
  bif xcm .leq m 1000 then
  bif tk then (
   bif okC cs k then
   bif okC ds kc then
   bif xle (xadd k 1) 1000000 then
   bif xcm .leq m 1000 then
   bif xcm .neq (takeE m k cs kc ds) (takeE m k cs kc ds) then (
    K .ret [.slo 0 0 n 0, .bool false, .ptr 1 0, .int .i64 m, .slo 7 0 (takeN m k cs kc ds) 0, .int .i64 ↑i, .ptr 4 0, .slo 6 0 kc 0, .int .i64 ↑j] [some (.ro ax), some (.cells [.int .i64 m, .slo 8 0 (takeN m k cs kc ds) 0] none), some .dead, some .dead, some (.cells [.bool tk, .int .i64 a, .int .u64 z, .slo 5 0 nl 0] none), some (.ro qs), some (.cells ds (some 2)), some (.cells (takeC m k cs kc ds) (some 2)), some (.cells (takeC m k cs kc ds) (some 2))] g)
   else (
    bif xnot tk then (
     bif xle 1 kc then
     bif xle 1 (xln ds) then
     bif isI .i64 (nthD ds 0) then
     bif xle 1 kc then
     bif xle 2 (xln ds) then
     bif isI .u64 (nthD ds 1) then
     bif okC (takeC m k cs kc ds) (takeN m k cs kc ds) then
     bif xle (xadd (takeN m k cs kc ds) 1) 1000000 then
     bif xcm .neq (putE m (takeN m k cs kc ds) (takeC m k cs kc ds) (asI (nthD ds 0)) (asI (nthD ds 1))) (takeE m k cs kc ds) then (
      K .ret [.slo 0 0 n 0, .bool false, .ptr 1 0, .int .i64 m, .slo 7 0 (takeN m k cs kc ds) 0, .int .i64 ↑i, .ptr 4 0, .slo 6 0 kc 0, .int .i64 ↑j] [some (.ro ax), some (.cells [.int .i64 m, .slo 9 0 (putN m (takeN m k cs kc ds) (takeC m k cs kc ds) (asI (nthD ds 0)) (asI (nthD ds 1))) 0] none), some .dead, some .dead, some (.cells [.bool tk, .int .i64 a, .int .u64 z, .slo 5 0 nl 0] none), some (.ro qs), some (.cells ds (some 2)), some (.cells (takeC m k cs kc ds) (some 2)), some .dead, some (.cells (putC m (takeN m k cs kc ds) (takeC m k cs kc ds) (asI (nthD ds 0)) (asI (nthD ds 1))) (some 2))] g)
     else (
      K .normal [.slo 0 0 n 0, .any, .ptr 1 0, .int .i64 m, .slo 7 0 (takeN m k cs kc ds) 0, .int .i64 ↑i, .ptr 4 0, .slo 6 0 kc 0, .int .i64 ↑j] [some (.ro ax), some (.cells [.int .i64 m, .slo 9 0 (putN m (takeN m k cs kc ds) (takeC m k cs kc ds) (asI (nthD ds 0)) (asI (nthD ds 1))) 0] none), some .dead, some .dead, some (.cells [.bool tk, .int .i64 a, .int .u64 z, .slo 5 0 nl 0] none), some (.ro qs), some (.cells ds (some 2)), some (.cells (takeC m k cs kc ds) (some 2)), some .dead, some (.cells (putC m (takeN m k cs kc ds) (takeC m k cs kc ds) (asI (nthD ds 0)) (asI (nthD ds 1))) (some 2))] g)
     else False
     else False
     else False
     else False
     else False
     else False
     else False
     else False)
    else (
     K .normal [.slo 0 0 n 0, .any, .ptr 1 0, .int .i64 m, .slo 7 0 (takeN m k cs kc ds) 0, .int .i64 ↑i, .ptr 4 0, .slo 6 0 kc 0, .int .i64 ↑j] [some (.ro ax), some (.cells [.int .i64 m, .slo 8 0 (takeN m k cs kc ds) 0] none), some .dead, some .dead, some (.cells [.bool tk, .int .i64 a, .int .u64 z, .slo 5 0 nl 0] none), some (.ro qs), some (.cells ds (some 2)), some (.cells (takeC m k cs kc ds) (some 2)), some (.cells (takeC m k cs kc ds) (some 2))] g))
   else False
   else False
   else False
   else False)
  else (
   bif xnot tk then (
    bif xle 1 kc then
    bif xle 1 (xln ds) then
    bif isI .i64 (nthD ds 0) then
    bif xle 1 kc then
    bif xle 2 (xln ds) then
    bif isI .u64 (nthD ds 1) then
    bif okC cs k then
    bif xle (xadd k 1) 1000000 then
    bif xcm .neq (putE m k cs (asI (nthD ds 0)) (asI (nthD ds 1))) (takeE m k cs kc ds) then (
     K .ret [.slo 0 0 n 0, .bool false, .ptr 1 0, .int .i64 m, .slo 7 0 (takeN m k cs kc ds) 0, .int .i64 ↑i, .ptr 4 0, .slo 6 0 kc 0, .int .i64 ↑j] [some (.ro ax), some (.cells [.int .i64 m, .slo 8 0 (putN m k cs (asI (nthD ds 0)) (asI (nthD ds 1))) 0] none), some .dead, some .dead, some (.cells [.bool tk, .int .i64 a, .int .u64 z, .slo 5 0 nl 0] none), some (.ro qs), some (.cells ds (some 2)), some (.cells (takeC m k cs kc ds) (some 2)), some (.cells (putC m k cs (asI (nthD ds 0)) (asI (nthD ds 1))) (some 2))] g)
    else (
     K .normal [.slo 0 0 n 0, .any, .ptr 1 0, .int .i64 m, .slo 7 0 (takeN m k cs kc ds) 0, .int .i64 ↑i, .ptr 4 0, .slo 6 0 kc 0, .int .i64 ↑j] [some (.ro ax), some (.cells [.int .i64 m, .slo 8 0 (putN m k cs (asI (nthD ds 0)) (asI (nthD ds 1))) 0] none), some .dead, some .dead, some (.cells [.bool tk, .int .i64 a, .int .u64 z, .slo 5 0 nl 0] none), some (.ro qs), some (.cells ds (some 2)), some (.cells (takeC m k cs kc ds) (some 2)), some (.cells (putC m k cs (asI (nthD ds 0)) (asI (nthD ds 1))) (some 2))] g)
    else False
    else False
    else False
    else False
    else False
    else False
    else False
    else False)
   else (
    K .normal [.slo 0 0 n 0, .any, .ptr 1 0, .int .i64 m, .slo 7 0 (takeN m k cs kc ds) 0, .int .i64 ↑i, .ptr 4 0, .slo 6 0 kc 0, .int .i64 ↑j] [some (.ro ax), some (.cells [.int .i64 m, .slo 2 0 k 0] none), some (.cells cs (some 2)), some .dead, some (.cells [.bool tk, .int .i64 a, .int .u64 z, .slo 5 0 nl 0] none), some (.ro qs), some (.cells ds (some 2)), some (.cells (takeC m k cs kc ds) (some 2))] g))
  else False
  else False
  else False
  else False) := by kernel_rfl
theorem wp_g (n i k nl : Nat) (m : Int) (ax cs qs : List LV) (tk : Bool) (a z : Int) (g : Glb) (K : Pk) : (xsp Go.Proofs.Try.prog cxw 40 165 ((spineL (blockIn (nthC (spineL (loopOf (nthC (sp Go.Proofs.Try.prog 4) 9))) 2))).drop 10) (mkTm 165 (wpU n i k m)) (mkS (wpJ k nl m ax cs qs tk a z) g) (vK wpL K)) = (
  bif okC cs k then
  bif okC cs k then
  bif xnot (xbq (getB k cs (nearA a ↑i)) (xcm .geq (fndW cs (nearA a ↑i)) 0)) then (
   K .ret [.slo 0 0 n 0, .bool false, .ptr 1 0, .int .i64 m, .slo 3 0 k 0, .int .i64 ↑i, .ptr 4 0, .any, .any] [some (.ro ax), some (.cells [.int .i64 m, .slo 2 0 k 0] none), some (.cells cs (some 2)), some (.cells cs (some 2)), some (.cells [.bool tk, .int .i64 a, .int .u64 z, .slo 5 0 nl 0] none), some (.ro qs)] g)
  else (
   bif getB k cs (nearA a ↑i) then (
    bif xnn (fndW cs (nearA a ↑i)) then
    bif xle (xadd (xnat (fndW cs (nearA a ↑i))) 1) k then
    bif xle (xadd (xadd (xix 0 (xnat (fndW cs (nearA a ↑i))) 2) 1) 1) (xln cs) then
    bif isI .u64 (nthD cs (xadd (xix 0 (xnat (fndW cs (nearA a ↑i))) 2) 1)) then
    bif xcm .neq (getV k cs (nearA a ↑i)) (asI (nthD cs (xadd (xix 0 (xnat (fndW cs (nearA a ↑i))) 2) 1))) then (
     K .ret [.slo 0 0 n 0, .bool false, .ptr 1 0, .int .i64 m, .slo 3 0 k 0, .int .i64 ↑i, .ptr 4 0, .any, .any] [some (.ro ax), some (.cells [.int .i64 m, .slo 2 0 k 0] none), some (.cells cs (some 2)), some (.cells cs (some 2)), some (.cells [.bool tk, .int .i64 a, .int .u64 z, .slo 5 0 nl 0] none), some (.ro qs)] g)
    else (
     bif xnot (getB k cs (nearA a ↑i)) then (
      bif xcm .neq (getV k cs (nearA a ↑i)) 0 then (
       K .ret [.slo 0 0 n 0, .bool false, .ptr 1 0, .int .i64 m, .slo 3 0 k 0, .int .i64 ↑i, .ptr 4 0, .any, .any] [some (.ro ax), some (.cells [.int .i64 m, .slo 2 0 k 0] none), some (.cells cs (some 2)), some (.cells cs (some 2)), some (.cells [.bool tk, .int .i64 a, .int .u64 z, .slo 5 0 nl 0] none), some (.ro qs)] g)
      else (
       bif xle k 1000000 then
       bif xeq (xln cs) (xmul k 2) then
       bif xnoid cs then
       bif okC cs k then
       bif okC cs k then
       bif xnot (sameW k k cs cs) then (
        K .ret [.slo 0 0 n 0, .bool false, .ptr 1 0, .int .i64 m, .slo 3 0 k 0, .int .i64 ↑i, .ptr 4 0, .any, .any] [some (.ro ax), some (.cells [.int .i64 m, .slo 2 0 k 0] none), some (.cells cs (some 2)), some (.cells cs (some 2)), some (.cells [.bool tk, .int .i64 a, .int .u64 z, .slo 5 0 nl 0] none), some (.ro qs), some (.cells cs (some 2))] g)
       else (
        bif xcm .neq ↑k ↑k then (
         K .ret [.slo 0 0 n 0, .bool false, .ptr 1 0, .int .i64 m, .slo 3 0 k 0, .int .i64 ↑i, .ptr 4 0, .any, .any] [some (.ro ax), some (.cells [.int .i64 m, .slo 2 0 k 0] none), some (.cells cs (some 2)), some (.cells cs (some 2)), some (.cells [.bool tk, .int .i64 a, .int .u64 z, .slo 5 0 nl 0] none), some (.ro qs), some (.cells cs (some 2))] g)
        else (
         K .normal [.slo 0 0 n 0, .any, .ptr 1 0, .int .i64 m, .slo 3 0 k 0, .int .i64 ↑i, .ptr 4 0, .any, .any] [some (.ro ax), some (.cells [.int .i64 m, .slo 2 0 k 0] none), some (.cells cs (some 2)), some (.cells cs (some 2)), some (.cells [.bool tk, .int .i64 a, .int .u64 z, .slo 5 0 nl 0] none), some (.ro qs), some (.cells cs (some 2))] g))
       else False
       else False
       else False
       else False
       else False))
     else (
      bif xle k 1000000 then
      bif xeq (xln cs) (xmul k 2) then
      bif xnoid cs then
      bif okC cs k then
      bif okC cs k then
      bif xnot (sameW k k cs cs) then (
       K .ret [.slo 0 0 n 0, .bool false, .ptr 1 0, .int .i64 m, .slo 3 0 k 0, .int .i64 ↑i, .ptr 4 0, .any, .any] [some (.ro ax), some (.cells [.int .i64 m, .slo 2 0 k 0] none), some (.cells cs (some 2)), some (.cells cs (some 2)), some (.cells [.bool tk, .int .i64 a, .int .u64 z, .slo 5 0 nl 0] none), some (.ro qs), some (.cells cs (some 2))] g)
      else (
       bif xcm .neq ↑k ↑k then (
        K .ret [.slo 0 0 n 0, .bool false, .ptr 1 0, .int .i64 m, .slo 3 0 k 0, .int .i64 ↑i, .ptr 4 0, .any, .any] [some (.ro ax), some (.cells [.int .i64 m, .slo 2 0 k 0] none), some (.cells cs (some 2)), some (.cells cs (some 2)), some (.cells [.bool tk, .int .i64 a, .int .u64 z, .slo 5 0 nl 0] none), some (.ro qs), some (.cells cs (some 2))] g)
       else (
        K .normal [.slo 0 0 n 0, .any, .ptr 1 0, .int .i64 m, .slo 3 0 k 0, .int .i64 ↑i, .ptr 4 0, .any, .any] [some (.ro ax), some (.cells [.int .i64 m, .slo 2 0 k 0] none), some (.cells cs (some 2)), some (.cells cs (some 2)), some (.cells [.bool tk, .int .i64 a, .int .u64 z, .slo 5 0 nl 0] none), some (.ro qs), some (.cells cs (some 2))] g))
      else False
      else False
      else False
      else False
      else False))
    else False
    else False
    else False
    else False)
   else (
    bif xnot (getB k cs (nearA a ↑i)) then (
     bif xcm .neq (getV k cs (nearA a ↑i)) 0 then (
      K .ret [.slo 0 0 n 0, .bool false, .ptr 1 0, .int .i64 m, .slo 3 0 k 0, .int .i64 ↑i, .ptr 4 0, .any, .any] [some (.ro ax), some (.cells [.int .i64 m, .slo 2 0 k 0] none), some (.cells cs (some 2)), some (.cells cs (some 2)), some (.cells [.bool tk, .int .i64 a, .int .u64 z, .slo 5 0 nl 0] none), some (.ro qs)] g)
     else (
      bif xle k 1000000 then
      bif xeq (xln cs) (xmul k 2) then
      bif xnoid cs then
      bif okC cs k then
      bif okC cs k then
      bif xnot (sameW k k cs cs) then (
       K .ret [.slo 0 0 n 0, .bool false, .ptr 1 0, .int .i64 m, .slo 3 0 k 0, .int .i64 ↑i, .ptr 4 0, .any, .any] [some (.ro ax), some (.cells [.int .i64 m, .slo 2 0 k 0] none), some (.cells cs (some 2)), some (.cells cs (some 2)), some (.cells [.bool tk, .int .i64 a, .int .u64 z, .slo 5 0 nl 0] none), some (.ro qs), some (.cells cs (some 2))] g)
      else (
       bif xcm .neq ↑k ↑k then (
        K .ret [.slo 0 0 n 0, .bool false, .ptr 1 0, .int .i64 m, .slo 3 0 k 0, .int .i64 ↑i, .ptr 4 0, .any, .any] [some (.ro ax), some (.cells [.int .i64 m, .slo 2 0 k 0] none), some (.cells cs (some 2)), some (.cells cs (some 2)), some (.cells [.bool tk, .int .i64 a, .int .u64 z, .slo 5 0 nl 0] none), some (.ro qs), some (.cells cs (some 2))] g)
       else (
        K .normal [.slo 0 0 n 0, .any, .ptr 1 0, .int .i64 m, .slo 3 0 k 0, .int .i64 ↑i, .ptr 4 0, .any, .any] [some (.ro ax), some (.cells [.int .i64 m, .slo 2 0 k 0] none), some (.cells cs (some 2)), some (.cells cs (some 2)), some (.cells [.bool tk, .int .i64 a, .int .u64 z, .slo 5 0 nl 0] none), some (.ro qs), some (.cells cs (some 2))] g))
      else False
      else False
      else False
      else False
      else False))
    else (
     bif xle k 1000000 then
     bif xeq (xln cs) (xmul k 2) then
     bif xnoid cs then
     bif okC cs k then
     bif okC cs k then
     bif xnot (sameW k k cs cs) then (
      K .ret [.slo 0 0 n 0, .bool false, .ptr 1 0, .int .i64 m, .slo 3 0 k 0, .int .i64 ↑i, .ptr 4 0, .any, .any] [some (.ro ax), some (.cells [.int .i64 m, .slo 2 0 k 0] none), some (.cells cs (some 2)), some (.cells cs (some 2)), some (.cells [.bool tk, .int .i64 a, .int .u64 z, .slo 5 0 nl 0] none), some (.ro qs), some (.cells cs (some 2))] g)
     else (
      bif xcm .neq ↑k ↑k then (
       K .ret [.slo 0 0 n 0, .bool false, .ptr 1 0, .int .i64 m, .slo 3 0 k 0, .int .i64 ↑i, .ptr 4 0, .any, .any] [some (.ro ax), some (.cells [.int .i64 m, .slo 2 0 k 0] none), some (.cells cs (some 2)), some (.cells cs (some 2)), some (.cells [.bool tk, .int .i64 a, .int .u64 z, .slo 5 0 nl 0] none), some (.ro qs), some (.cells cs (some 2))] g)
      else (
       K .normal [.slo 0 0 n 0, .any, .ptr 1 0, .int .i64 m, .slo 3 0 k 0, .int .i64 ↑i, .ptr 4 0, .any, .any] [some (.ro ax), some (.cells [.int .i64 m, .slo 2 0 k 0] none), some (.cells cs (some 2)), some (.cells cs (some 2)), some (.cells [.bool tk, .int .i64 a, .int .u64 z, .slo 5 0 nl 0] none), some (.ro qs), some (.cells cs (some 2))] g))
     else False
     else False
     else False
     else False
     else False)))
  else False
  else False) := by kernel_rfl
theorem wp_h (n i k : Nat) (m : Int) (ax cs : List LV) (g : Glb) (K : Pk) : (xsp Go.Proofs.Try.prog cxw 40 165 ((spineL (loopOf (nthC (sp Go.Proofs.Try.prog 4) 9))).drop 3) (mkTm 165 (wpT n i k m)) (mkS (wpH k m ax cs) g) (vK wpL K)) = (
  K .normal [.slo 0 0 n 0, .any, .ptr 1 0, .int .i64 m, .slo 3 0 k 0, .int .i64 (xar .add .i64 (↑i) 1), .any, .any, .any] [some (.ro ax), some (.cells [.int .i64 m, .slo 2 0 k 0] none), some (.cells cs (some 2)), some (.cells cs (some 2))] g) := by kernel_rfl
theorem wp_z (n i k : Nat) (m : Int) (ax cs : List LV) (g : Glb) (K : Pk) : (xsp Go.Proofs.Try.prog cxw 40 165 ((sp Go.Proofs.Try.prog 4).drop 10) (mkTm 165 (wpT n i k m)) (mkS (wpH k m ax cs) g) (vK wpL K)) = (
  K .ret [.slo 0 0 n 0, .bool true, .ptr 1 0, .int .i64 m, .slo 3 0 k 0, .int .i64 ↑i, .any, .any, .any] [some (.ro ax), some (.cells [.int .i64 m, .slo 2 0 k 0] none), some (.cells cs (some 2)), some (.cells cs (some 2))] g) := by kernel_rfl
end
end Go.Lev
