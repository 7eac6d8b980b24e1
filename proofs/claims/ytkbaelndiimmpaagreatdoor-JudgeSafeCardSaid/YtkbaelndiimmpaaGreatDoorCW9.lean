/- chapter 30: Safe of both: trees -/
import Derived.Test.YtkbaelndiimmpaaGreatDoorCW8
import Derived.Test.YtkbaelndiimmpaaGreatDoorLc
import Derived.Test.YtkbaelndiimmpaaGreatDoorChecked
import Derived.KernelRfl

namespace Go.Lev
open Go.RowKit
open Go.Proofs.Tryz (prog)
set_option linter.unusedVariables false
set_option linter.unusedSimpArgs false
set_option maxRecDepth 100000
noncomputable section
structure OX where
  o1 : Int
  o2 : Int
  b1 : Bool
  o4 : Int
  o5 : Int
  b2 : Bool
  o6 : Int
def ox1 (x : OX) : Int := x.o1

def ox2 (x : OX) : Int := x.o2

def oxb (x : OX) : Bool := x.b1

def ox4 (x : OX) : Int := x.o4

def ox5 (x : OX) : Int := x.o5

def oxc (x : OX) : Bool := x.b2

def ox6 (x : OX) : Int := x.o6

abbrev opC (k a w : Int) (x : OX) : List LV := [.int .i64 k, .int .i64 a, .int .u64 (ox1 x), .int .u64 w, .int .u64 (ox2 x), .bool (oxb x), .int .i64 (ox4 x), .int .u64 (ox5 x), .bool (oxc x), .int .i64 (ox6 x)]
def cxG1 : Cx := cxl [(15, ligG), (17, logG), (16, sizeG), (18, osizeG)]
def cxB1 : Cx := cxl [(15, libG), (17, lobG), (16, sizeG), (18, osizeG)]
abbrev sfS : List Code := sp prog 8
abbrev sfB : List Code := spineL (loopOf (nthC sfS 7))
abbrev sfC : List Code := spineL (blockIn (nthC sfB 2))
abbrev ofS : List Code := sp prog 9
abbrev ofB : List Code := spineL (loopOf (nthC ofS 5))
abbrev ofC : List Code := spineL (blockIn (nthC ofB 2))
abbrev sfL : List Nat := [3, 4, 7, 26, 27, 28, 33, 34, 35]
abbrev ofL : List Nat := [3, 4, 5, 7, 8]
abbrev sfT (i : Int) : List (Nat × LV) := [(3, .ptr 1 0), (26, .slo 2 0 4 0), (27, .int .i64 4), (28, .int .i64 i)]
abbrev sfU (i : Int) (b n j : Nat) : List (Nat × LV) := [(3, .ptr 1 0), (7, .int .i64 i), (26, .slo 2 0 4 0), (27, .int .i64 4), (28, .int .i64 i), (33, .slo b 0 n 0), (34, .int .i64 n), (35, .int .i64 j)]
abbrev ofT (i : Int) : List (Nat × LV) := [(3, .ptr 1 0), (5, .slo 2 0 4 0), (7, .int .i64 i)]
abbrev ofU (i : Int) (j : Nat) : List (Nat × LV) := [(3, .ptr 1 0), (5, .slo 2 0 4 0), (7, .int .i64 i), (8, .int .i64 j)]
abbrev sfH (wc : List LV) (k a w : Int) (x : OX) (n1 n2 n3 n4 : Nat) (r1 r2 r3 r4 : List LV) : List LB := [.cells wc (some 1), .cells (opC k a w x) none, .cells [.slo 3 0 n1 0, .slo 4 0 n2 0, .slo 5 0 n3 0, .slo 6 0 n4 0] (some 1), .cells r1 (some 1), .cells r2 (some 1), .cells r3 (some 1), .cells r4 (some 1)]
abbrev sf_g_b1 (k : Int) (a : Int) (w : Int) (x : OX) (wc : List LV) : List (Option LB) := [sC wc 1, sN [.int .i64 k, .int .i64 a, .int .u64 (ox1 x), .int .u64 w, .int .u64 (ox2 x), .bool (oxb x), .int .i64 (ox4 x), .int .u64 (ox5 x), .bool (oxc x), .int .i64 (ox6 x)], sC [.slo 3 0 (ln1 wc) 0, .slo 4 0 (ln2 wc) 0, .slo 5 0 (ln3 wc) 0, .slo 6 0 (ln4 wc) 0] 1, sC (lc1 wc) 1, sC (lc2 wc) 1, sC (lc3 wc) 1, sC (lc4 wc) 1]
theorem sf_g (n : Nat) (k a w : Int) (x : OX) (wc : List LV) (K : Pk) : (xsp prog cxG1 40 55 (seg sfS 0 7) (tm0 [.slo 0 0 n 0, .agg (opC k a w x)]) (mkS [.cells wc (some 1)]) (vK sfL K)) = (
 bif xcm .neq k 1 then (
 bif xcm .neq k 2 then (
 K .ret [.ptr 1 0, .bool true, .tup [], .tup [], .tup [], .tup [], .tup [], .tup [], .tup []] [sC wc 1, sN [.int .i64 k, .int .i64 a, .int .u64 (ox1 x), .int .u64 w, .int .u64 (ox2 x), .bool (oxb x), .int .i64 (ox4 x), .int .u64 (ox5 x), .bool (oxc x), .int .i64 (ox6 x)]] [])
 else (
 ck (lgW wc n) <|
 K .normal [.ptr 1 0, .bool false, .tup [], .slo 2 0 4 0, .int .i64 4, .int .i64 0, .tup [], .tup [], .tup []] (sf_g_b1 k a w x wc) []))
 else (
 ck (lgW wc n) <|
 K .normal [.ptr 1 0, .bool false, .tup [], .slo 2 0 4 0, .int .i64 4, .int .i64 0, .tup [], .tup [], .tup []] (sf_g_b1 k a w x wc) [])) := by kernel_rfl
abbrev sf_h_b1 (k : Int) (a : Int) (w : Int) (x : OX) (wc : List LV) : List (Option LB) := [sC wc 1, sN [.int .i64 k, .int .i64 a, .int .u64 (ox1 x), .int .u64 w, .int .u64 (ox2 x), .bool (oxb x), .int .i64 (ox4 x), .int .u64 (ox5 x), .bool (oxc x), .int .i64 (ox6 x)]]
theorem sf_h (n : Nat) (k a w : Int) (x : OX) (wc : List LV) (K : Pk) : (xsp prog cxB1 40 55 (seg sfS 0 7) (tm0 [.slo 0 0 n 0, .agg (opC k a w x)]) (mkS [.cells wc (some 1)]) (vK sfL K)) = (
 bif xcm .neq k 1 then (
 bif xcm .neq k 2 then (
 K .ret [.ptr 1 0, .bool true, .tup [], .tup [], .tup [], .tup [], .tup [], .tup [], .tup []] (sf_h_b1 k a w x wc) [])
 else (
 ck (lbW wc n) <|
 K .ret [.ptr 1 0, .bool true, .tup [], .tup [], .tup [], .tup [], .tup [], .tup [], .tup []] (sf_h_b1 k a w x wc) []))
 else (
 ck (lbW wc n) <|
 K .ret [.ptr 1 0, .bool true, .tup [], .tup [], .tup [], .tup [], .tup [], .tup [], .tup []] (sf_h_b1 k a w x wc) [])) := by kernel_rfl
theorem sf_o0 (k a w : Int) (x : OX) (n1 n2 n3 n4 : Nat) (wc r1 r2 r3 r4 : List LV) (K : Pk) : (xsp prog cxG1 40 55 (seg sfB 0 2) (mkTm 55 (sfT 0)) (mkS (sfH wc k a w x n1 n2 n3 n4 r1 r2 r3 r4)) (vK sfL K)) = (
 K .normal [.ptr 1 0, .any, .any, .slo 2 0 4 0, .int .i64 4, .int .i64 0, .any, .any, .any] [sC wc 1, sN [.int .i64 k, .int .i64 a, .int .u64 (ox1 x), .int .u64 w, .int .u64 (ox2 x), .bool (oxb x), .int .i64 (ox4 x), .int .u64 (ox5 x), .bool (oxc x), .int .i64 (ox6 x)], sC [.slo 3 0 n1 0, .slo 4 0 n2 0, .slo 5 0 n3 0, .slo 6 0 n4 0] 1, sC r1 1, sC r2 1, sC r3 1, sC r4 1] []) := by kernel_rfl
theorem sf_o1 (k a w : Int) (x : OX) (n1 n2 n3 n4 : Nat) (wc r1 r2 r3 r4 : List LV) (K : Pk) : (xsp prog cxG1 40 55 (seg sfB 0 2) (mkTm 55 (sfT 1)) (mkS (sfH wc k a w x n1 n2 n3 n4 r1 r2 r3 r4)) (vK sfL K)) = (
 K .normal [.ptr 1 0, .any, .any, .slo 2 0 4 0, .int .i64 4, .int .i64 1, .any, .any, .any] [sC wc 1, sN [.int .i64 k, .int .i64 a, .int .u64 (ox1 x), .int .u64 w, .int .u64 (ox2 x), .bool (oxb x), .int .i64 (ox4 x), .int .u64 (ox5 x), .bool (oxc x), .int .i64 (ox6 x)], sC [.slo 3 0 n1 0, .slo 4 0 n2 0, .slo 5 0 n3 0, .slo 6 0 n4 0] 1, sC r1 1, sC r2 1, sC r3 1, sC r4 1] []) := by kernel_rfl
theorem sf_o2 (k a w : Int) (x : OX) (n1 n2 n3 n4 : Nat) (wc r1 r2 r3 r4 : List LV) (K : Pk) : (xsp prog cxG1 40 55 (seg sfB 0 2) (mkTm 55 (sfT 2)) (mkS (sfH wc k a w x n1 n2 n3 n4 r1 r2 r3 r4)) (vK sfL K)) = (
 K .normal [.ptr 1 0, .any, .any, .slo 2 0 4 0, .int .i64 4, .int .i64 2, .any, .any, .any] [sC wc 1, sN [.int .i64 k, .int .i64 a, .int .u64 (ox1 x), .int .u64 w, .int .u64 (ox2 x), .bool (oxb x), .int .i64 (ox4 x), .int .u64 (ox5 x), .bool (oxc x), .int .i64 (ox6 x)], sC [.slo 3 0 n1 0, .slo 4 0 n2 0, .slo 5 0 n3 0, .slo 6 0 n4 0] 1, sC r1 1, sC r2 1, sC r3 1, sC r4 1] []) := by kernel_rfl
theorem sf_o3 (k a w : Int) (x : OX) (n1 n2 n3 n4 : Nat) (wc r1 r2 r3 r4 : List LV) (K : Pk) : (xsp prog cxG1 40 55 (seg sfB 0 2) (mkTm 55 (sfT 3)) (mkS (sfH wc k a w x n1 n2 n3 n4 r1 r2 r3 r4)) (vK sfL K)) = (
 K .normal [.ptr 1 0, .any, .any, .slo 2 0 4 0, .int .i64 4, .int .i64 3, .any, .any, .any] [sC wc 1, sN [.int .i64 k, .int .i64 a, .int .u64 (ox1 x), .int .u64 w, .int .u64 (ox2 x), .bool (oxb x), .int .i64 (ox4 x), .int .u64 (ox5 x), .bool (oxc x), .int .i64 (ox6 x)], sC [.slo 3 0 n1 0, .slo 4 0 n2 0, .slo 5 0 n3 0, .slo 6 0 n4 0] 1, sC r1 1, sC r2 1, sC r3 1, sC r4 1] []) := by kernel_rfl
theorem sf_o4 (k a w : Int) (x : OX) (n1 n2 n3 n4 : Nat) (wc r1 r2 r3 r4 : List LV) (K : Pk) : (xsp prog cxG1 40 55 (seg sfB 0 2) (mkTm 55 (sfT 4)) (mkS (sfH wc k a w x n1 n2 n3 n4 r1 r2 r3 r4)) (vK sfL K)) = (
 K (.exit 0) [.ptr 1 0, .any, .any, .slo 2 0 4 0, .int .i64 4, .int .i64 4, .any, .any, .any] [sC wc 1, sN [.int .i64 k, .int .i64 a, .int .u64 (ox1 x), .int .u64 w, .int .u64 (ox2 x), .bool (oxb x), .int .i64 (ox4 x), .int .u64 (ox5 x), .bool (oxc x), .int .i64 (ox6 x)], sC [.slo 3 0 n1 0, .slo 4 0 n2 0, .slo 5 0 n3 0, .slo 6 0 n4 0] 1, sC r1 1, sC r2 1, sC r3 1, sC r4 1] []) := by kernel_rfl
theorem sf_p0 (k a w : Int) (x : OX) (n1 n2 n3 n4 : Nat) (wc r1 r2 r3 r4 : List LV) (K : Pk) : (xsp prog cxG1 40 55 (seg sfC 0 2) (mkTm 55 (sfT 0)) (mkS (sfH wc k a w x n1 n2 n3 n4 r1 r2 r3 r4)) (vK sfL K)) = (
 K .normal [.ptr 1 0, .any, .int .i64 0, .slo 2 0 4 0, .int .i64 4, .int .i64 0, .slo 3 0 n1 0, .int .i64 ↑n1, .int .i64 0] [sC wc 1, sN [.int .i64 k, .int .i64 a, .int .u64 (ox1 x), .int .u64 w, .int .u64 (ox2 x), .bool (oxb x), .int .i64 (ox4 x), .int .u64 (ox5 x), .bool (oxc x), .int .i64 (ox6 x)], sC [.slo 3 0 n1 0, .slo 4 0 n2 0, .slo 5 0 n3 0, .slo 6 0 n4 0] 1, sC r1 1, sC r2 1, sC r3 1, sC r4 1] []) := by kernel_rfl
abbrev sf_l0_b1 (k : Int) (a : Int) (w : Int) (x : OX) (n1 : Nat) (n2 : Nat) (n3 : Nat) (n4 : Nat) (wc : List LV) (r1 : List LV) (r2 : List LV) (r3 : List LV) (r4 : List LV) : List (Option LB) := [sC wc 1, sN [.int .i64 k, .int .i64 a, .int .u64 (ox1 x), .int .u64 w, .int .u64 (ox2 x), .bool (oxb x), .int .i64 (ox4 x), .int .u64 (ox5 x), .bool (oxc x), .int .i64 (ox6 x)], sC [.slo 3 0 n1 0, .slo 4 0 n2 0, .slo 5 0 n3 0, .slo 6 0 n4 0] 1, sC r1 1, sC r2 1, sC r3 1, sC r4 1]
theorem sf_l0 (j : Nat) (k a w : Int) (x : OX) (n1 n2 n3 n4 : Nat) (wc r1 r2 r3 r4 : List LV) (K : Pk) : (xcode prog cxG1 40 55 (loopOf (nthC sfC 2)) (mkTm 55 (sfU 0 3 n1 j)) (mkS (sfH wc k a w x n1 n2 n3 n4 r1 r2 r3 r4)) (vK sfL K)) = (
 bif xcm .lss ↑j ↑n1 then (
 ck (xle (xadd (xnat ↑j) 1) n1) <|
 ck (xle (xadd (xix 0 (xnat ↑j) 1) 1) (xln r1)) <|
 ck (isI .i64 (nthD r1 (xix 0 (xnat ↑j) 1))) <|
 bif xcm .gtr a (asI (nthD r1 (xix 0 (xnat ↑j) 1))) then (
 ck (xcm .eql a a) <|
 ck (xcm .eql a a) <|
 bif xcm .lss a (xar .add .i64 (asI (nthD r1 (xix 0 (xnat ↑j) 1))) 2) then (
 K .ret [.ptr 1 0, .bool false, .int .i64 0, .slo 2 0 4 0, .int .i64 4, .int .i64 0, .slo 3 0 n1 0, .int .i64 ↑n1, .int .i64 ↑j] (sf_l0_b1 k a w x n1 n2 n3 n4 wc r1 r2 r3 r4) [])
 else (
 K .normal [.ptr 1 0, .any, .int .i64 0, .slo 2 0 4 0, .int .i64 4, .int .i64 0, .slo 3 0 n1 0, .int .i64 ↑n1, .int .i64 (xar .add .i64 (↑j) 1)] (sf_l0_b1 k a w x n1 n2 n3 n4 wc r1 r2 r3 r4) []))
 else (
 K .normal [.ptr 1 0, .any, .int .i64 0, .slo 2 0 4 0, .int .i64 4, .int .i64 0, .slo 3 0 n1 0, .int .i64 ↑n1, .int .i64 (xar .add .i64 (↑j) 1)] (sf_l0_b1 k a w x n1 n2 n3 n4 wc r1 r2 r3 r4) []))
 else (
 K (.exit 2) [.ptr 1 0, .any, .int .i64 0, .slo 2 0 4 0, .int .i64 4, .int .i64 0, .slo 3 0 n1 0, .int .i64 ↑n1, .int .i64 ↑j] (sf_l0_b1 k a w x n1 n2 n3 n4 wc r1 r2 r3 r4) [])) := by kernel_rfl
theorem sf_q0 (k a w : Int) (x : OX) (n1 n2 n3 n4 : Nat) (wc r1 r2 r3 r4 : List LV) (K : Pk) : (xsp prog cxG1 40 55 (sfB.drop 3) (mkTm 55 (sfT 0)) (mkS (sfH wc k a w x n1 n2 n3 n4 r1 r2 r3 r4)) (vK sfL K)) = (
 K .normal [.ptr 1 0, .any, .any, .slo 2 0 4 0, .int .i64 4, .int .i64 1, .any, .any, .any] [sC wc 1, sN [.int .i64 k, .int .i64 a, .int .u64 (ox1 x), .int .u64 w, .int .u64 (ox2 x), .bool (oxb x), .int .i64 (ox4 x), .int .u64 (ox5 x), .bool (oxc x), .int .i64 (ox6 x)], sC [.slo 3 0 n1 0, .slo 4 0 n2 0, .slo 5 0 n3 0, .slo 6 0 n4 0] 1, sC r1 1, sC r2 1, sC r3 1, sC r4 1] []) := by kernel_rfl
theorem sf_p1 (k a w : Int) (x : OX) (n1 n2 n3 n4 : Nat) (wc r1 r2 r3 r4 : List LV) (K : Pk) : (xsp prog cxG1 40 55 (seg sfC 0 2) (mkTm 55 (sfT 1)) (mkS (sfH wc k a w x n1 n2 n3 n4 r1 r2 r3 r4)) (vK sfL K)) = (
 K .normal [.ptr 1 0, .any, .int .i64 1, .slo 2 0 4 0, .int .i64 4, .int .i64 1, .slo 4 0 n2 0, .int .i64 ↑n2, .int .i64 0] [sC wc 1, sN [.int .i64 k, .int .i64 a, .int .u64 (ox1 x), .int .u64 w, .int .u64 (ox2 x), .bool (oxb x), .int .i64 (ox4 x), .int .u64 (ox5 x), .bool (oxc x), .int .i64 (ox6 x)], sC [.slo 3 0 n1 0, .slo 4 0 n2 0, .slo 5 0 n3 0, .slo 6 0 n4 0] 1, sC r1 1, sC r2 1, sC r3 1, sC r4 1] []) := by kernel_rfl
abbrev sf_l1_b1 (k : Int) (a : Int) (w : Int) (x : OX) (n1 : Nat) (n2 : Nat) (n3 : Nat) (n4 : Nat) (wc : List LV) (r1 : List LV) (r2 : List LV) (r3 : List LV) (r4 : List LV) : List (Option LB) := [sC wc 1, sN [.int .i64 k, .int .i64 a, .int .u64 (ox1 x), .int .u64 w, .int .u64 (ox2 x), .bool (oxb x), .int .i64 (ox4 x), .int .u64 (ox5 x), .bool (oxc x), .int .i64 (ox6 x)], sC [.slo 3 0 n1 0, .slo 4 0 n2 0, .slo 5 0 n3 0, .slo 6 0 n4 0] 1, sC r1 1, sC r2 1, sC r3 1, sC r4 1]
theorem sf_l1 (j : Nat) (k a w : Int) (x : OX) (n1 n2 n3 n4 : Nat) (wc r1 r2 r3 r4 : List LV) (K : Pk) : (xcode prog cxG1 40 55 (loopOf (nthC sfC 2)) (mkTm 55 (sfU 1 4 n2 j)) (mkS (sfH wc k a w x n1 n2 n3 n4 r1 r2 r3 r4)) (vK sfL K)) = (
 bif xcm .lss ↑j ↑n2 then (
 ck (xle (xadd (xnat ↑j) 1) n2) <|
 ck (xle (xadd (xix 0 (xnat ↑j) 1) 1) (xln r2)) <|
 ck (isI .i64 (nthD r2 (xix 0 (xnat ↑j) 1))) <|
 bif xcm .gtr a (asI (nthD r2 (xix 0 (xnat ↑j) 1))) then (
 ck (xcm .eql a a) <|
 ck (xcm .eql a a) <|
 bif xcm .lss a (xar .add .i64 (asI (nthD r2 (xix 0 (xnat ↑j) 1))) 4) then (
 K .ret [.ptr 1 0, .bool false, .int .i64 1, .slo 2 0 4 0, .int .i64 4, .int .i64 1, .slo 4 0 n2 0, .int .i64 ↑n2, .int .i64 ↑j] (sf_l1_b1 k a w x n1 n2 n3 n4 wc r1 r2 r3 r4) [])
 else (
 K .normal [.ptr 1 0, .any, .int .i64 1, .slo 2 0 4 0, .int .i64 4, .int .i64 1, .slo 4 0 n2 0, .int .i64 ↑n2, .int .i64 (xar .add .i64 (↑j) 1)] (sf_l1_b1 k a w x n1 n2 n3 n4 wc r1 r2 r3 r4) []))
 else (
 K .normal [.ptr 1 0, .any, .int .i64 1, .slo 2 0 4 0, .int .i64 4, .int .i64 1, .slo 4 0 n2 0, .int .i64 ↑n2, .int .i64 (xar .add .i64 (↑j) 1)] (sf_l1_b1 k a w x n1 n2 n3 n4 wc r1 r2 r3 r4) []))
 else (
 K (.exit 2) [.ptr 1 0, .any, .int .i64 1, .slo 2 0 4 0, .int .i64 4, .int .i64 1, .slo 4 0 n2 0, .int .i64 ↑n2, .int .i64 ↑j] (sf_l1_b1 k a w x n1 n2 n3 n4 wc r1 r2 r3 r4) [])) := by kernel_rfl
theorem sf_q1 (k a w : Int) (x : OX) (n1 n2 n3 n4 : Nat) (wc r1 r2 r3 r4 : List LV) (K : Pk) : (xsp prog cxG1 40 55 (sfB.drop 3) (mkTm 55 (sfT 1)) (mkS (sfH wc k a w x n1 n2 n3 n4 r1 r2 r3 r4)) (vK sfL K)) = (
 K .normal [.ptr 1 0, .any, .any, .slo 2 0 4 0, .int .i64 4, .int .i64 2, .any, .any, .any] [sC wc 1, sN [.int .i64 k, .int .i64 a, .int .u64 (ox1 x), .int .u64 w, .int .u64 (ox2 x), .bool (oxb x), .int .i64 (ox4 x), .int .u64 (ox5 x), .bool (oxc x), .int .i64 (ox6 x)], sC [.slo 3 0 n1 0, .slo 4 0 n2 0, .slo 5 0 n3 0, .slo 6 0 n4 0] 1, sC r1 1, sC r2 1, sC r3 1, sC r4 1] []) := by kernel_rfl
theorem sf_p2 (k a w : Int) (x : OX) (n1 n2 n3 n4 : Nat) (wc r1 r2 r3 r4 : List LV) (K : Pk) : (xsp prog cxG1 40 55 (seg sfC 0 2) (mkTm 55 (sfT 2)) (mkS (sfH wc k a w x n1 n2 n3 n4 r1 r2 r3 r4)) (vK sfL K)) = (
 K .normal [.ptr 1 0, .any, .int .i64 2, .slo 2 0 4 0, .int .i64 4, .int .i64 2, .slo 5 0 n3 0, .int .i64 ↑n3, .int .i64 0] [sC wc 1, sN [.int .i64 k, .int .i64 a, .int .u64 (ox1 x), .int .u64 w, .int .u64 (ox2 x), .bool (oxb x), .int .i64 (ox4 x), .int .u64 (ox5 x), .bool (oxc x), .int .i64 (ox6 x)], sC [.slo 3 0 n1 0, .slo 4 0 n2 0, .slo 5 0 n3 0, .slo 6 0 n4 0] 1, sC r1 1, sC r2 1, sC r3 1, sC r4 1] []) := by kernel_rfl
abbrev sf_l2_b1 (k : Int) (a : Int) (w : Int) (x : OX) (n1 : Nat) (n2 : Nat) (n3 : Nat) (n4 : Nat) (wc : List LV) (r1 : List LV) (r2 : List LV) (r3 : List LV) (r4 : List LV) : List (Option LB) := [sC wc 1, sN [.int .i64 k, .int .i64 a, .int .u64 (ox1 x), .int .u64 w, .int .u64 (ox2 x), .bool (oxb x), .int .i64 (ox4 x), .int .u64 (ox5 x), .bool (oxc x), .int .i64 (ox6 x)], sC [.slo 3 0 n1 0, .slo 4 0 n2 0, .slo 5 0 n3 0, .slo 6 0 n4 0] 1, sC r1 1, sC r2 1, sC r3 1, sC r4 1]
theorem sf_l2 (j : Nat) (k a w : Int) (x : OX) (n1 n2 n3 n4 : Nat) (wc r1 r2 r3 r4 : List LV) (K : Pk) : (xcode prog cxG1 40 55 (loopOf (nthC sfC 2)) (mkTm 55 (sfU 2 5 n3 j)) (mkS (sfH wc k a w x n1 n2 n3 n4 r1 r2 r3 r4)) (vK sfL K)) = (
 bif xcm .lss ↑j ↑n3 then (
 ck (xle (xadd (xnat ↑j) 1) n3) <|
 ck (xle (xadd (xix 0 (xnat ↑j) 1) 1) (xln r3)) <|
 ck (isI .i64 (nthD r3 (xix 0 (xnat ↑j) 1))) <|
 bif xcm .gtr a (asI (nthD r3 (xix 0 (xnat ↑j) 1))) then (
 ck (xcm .eql a a) <|
 ck (xcm .eql a a) <|
 bif xcm .lss a (xar .add .i64 (asI (nthD r3 (xix 0 (xnat ↑j) 1))) 8) then (
 K .ret [.ptr 1 0, .bool false, .int .i64 2, .slo 2 0 4 0, .int .i64 4, .int .i64 2, .slo 5 0 n3 0, .int .i64 ↑n3, .int .i64 ↑j] (sf_l2_b1 k a w x n1 n2 n3 n4 wc r1 r2 r3 r4) [])
 else (
 K .normal [.ptr 1 0, .any, .int .i64 2, .slo 2 0 4 0, .int .i64 4, .int .i64 2, .slo 5 0 n3 0, .int .i64 ↑n3, .int .i64 (xar .add .i64 (↑j) 1)] (sf_l2_b1 k a w x n1 n2 n3 n4 wc r1 r2 r3 r4) []))
 else (
 K .normal [.ptr 1 0, .any, .int .i64 2, .slo 2 0 4 0, .int .i64 4, .int .i64 2, .slo 5 0 n3 0, .int .i64 ↑n3, .int .i64 (xar .add .i64 (↑j) 1)] (sf_l2_b1 k a w x n1 n2 n3 n4 wc r1 r2 r3 r4) []))
 else (
 K (.exit 2) [.ptr 1 0, .any, .int .i64 2, .slo 2 0 4 0, .int .i64 4, .int .i64 2, .slo 5 0 n3 0, .int .i64 ↑n3, .int .i64 ↑j] (sf_l2_b1 k a w x n1 n2 n3 n4 wc r1 r2 r3 r4) [])) := by kernel_rfl
theorem sf_q2 (k a w : Int) (x : OX) (n1 n2 n3 n4 : Nat) (wc r1 r2 r3 r4 : List LV) (K : Pk) : (xsp prog cxG1 40 55 (sfB.drop 3) (mkTm 55 (sfT 2)) (mkS (sfH wc k a w x n1 n2 n3 n4 r1 r2 r3 r4)) (vK sfL K)) = (
 K .normal [.ptr 1 0, .any, .any, .slo 2 0 4 0, .int .i64 4, .int .i64 3, .any, .any, .any] [sC wc 1, sN [.int .i64 k, .int .i64 a, .int .u64 (ox1 x), .int .u64 w, .int .u64 (ox2 x), .bool (oxb x), .int .i64 (ox4 x), .int .u64 (ox5 x), .bool (oxc x), .int .i64 (ox6 x)], sC [.slo 3 0 n1 0, .slo 4 0 n2 0, .slo 5 0 n3 0, .slo 6 0 n4 0] 1, sC r1 1, sC r2 1, sC r3 1, sC r4 1] []) := by kernel_rfl
theorem sf_p3 (k a w : Int) (x : OX) (n1 n2 n3 n4 : Nat) (wc r1 r2 r3 r4 : List LV) (K : Pk) : (xsp prog cxG1 40 55 (seg sfC 0 2) (mkTm 55 (sfT 3)) (mkS (sfH wc k a w x n1 n2 n3 n4 r1 r2 r3 r4)) (vK sfL K)) = (
 K .normal [.ptr 1 0, .any, .int .i64 3, .slo 2 0 4 0, .int .i64 4, .int .i64 3, .slo 6 0 n4 0, .int .i64 ↑n4, .int .i64 0] [sC wc 1, sN [.int .i64 k, .int .i64 a, .int .u64 (ox1 x), .int .u64 w, .int .u64 (ox2 x), .bool (oxb x), .int .i64 (ox4 x), .int .u64 (ox5 x), .bool (oxc x), .int .i64 (ox6 x)], sC [.slo 3 0 n1 0, .slo 4 0 n2 0, .slo 5 0 n3 0, .slo 6 0 n4 0] 1, sC r1 1, sC r2 1, sC r3 1, sC r4 1] []) := by kernel_rfl
abbrev sf_l3_b1 (k : Int) (a : Int) (w : Int) (x : OX) (n1 : Nat) (n2 : Nat) (n3 : Nat) (n4 : Nat) (wc : List LV) (r1 : List LV) (r2 : List LV) (r3 : List LV) (r4 : List LV) : List (Option LB) := [sC wc 1, sN [.int .i64 k, .int .i64 a, .int .u64 (ox1 x), .int .u64 w, .int .u64 (ox2 x), .bool (oxb x), .int .i64 (ox4 x), .int .u64 (ox5 x), .bool (oxc x), .int .i64 (ox6 x)], sC [.slo 3 0 n1 0, .slo 4 0 n2 0, .slo 5 0 n3 0, .slo 6 0 n4 0] 1, sC r1 1, sC r2 1, sC r3 1, sC r4 1]
theorem sf_l3 (j : Nat) (k a w : Int) (x : OX) (n1 n2 n3 n4 : Nat) (wc r1 r2 r3 r4 : List LV) (K : Pk) : (xcode prog cxG1 40 55 (loopOf (nthC sfC 2)) (mkTm 55 (sfU 3 6 n4 j)) (mkS (sfH wc k a w x n1 n2 n3 n4 r1 r2 r3 r4)) (vK sfL K)) = (
 bif xcm .lss ↑j ↑n4 then (
 ck (xle (xadd (xnat ↑j) 1) n4) <|
 ck (xle (xadd (xix 0 (xnat ↑j) 1) 1) (xln r4)) <|
 ck (isI .i64 (nthD r4 (xix 0 (xnat ↑j) 1))) <|
 bif xcm .gtr a (asI (nthD r4 (xix 0 (xnat ↑j) 1))) then (
 ck (xcm .eql a a) <|
 ck (xcm .eql a a) <|
 bif xcm .lss a (xar .add .i64 (asI (nthD r4 (xix 0 (xnat ↑j) 1))) 16) then (
 K .ret [.ptr 1 0, .bool false, .int .i64 3, .slo 2 0 4 0, .int .i64 4, .int .i64 3, .slo 6 0 n4 0, .int .i64 ↑n4, .int .i64 ↑j] (sf_l3_b1 k a w x n1 n2 n3 n4 wc r1 r2 r3 r4) [])
 else (
 K .normal [.ptr 1 0, .any, .int .i64 3, .slo 2 0 4 0, .int .i64 4, .int .i64 3, .slo 6 0 n4 0, .int .i64 ↑n4, .int .i64 (xar .add .i64 (↑j) 1)] (sf_l3_b1 k a w x n1 n2 n3 n4 wc r1 r2 r3 r4) []))
 else (
 K .normal [.ptr 1 0, .any, .int .i64 3, .slo 2 0 4 0, .int .i64 4, .int .i64 3, .slo 6 0 n4 0, .int .i64 ↑n4, .int .i64 (xar .add .i64 (↑j) 1)] (sf_l3_b1 k a w x n1 n2 n3 n4 wc r1 r2 r3 r4) []))
 else (
 K (.exit 2) [.ptr 1 0, .any, .int .i64 3, .slo 2 0 4 0, .int .i64 4, .int .i64 3, .slo 6 0 n4 0, .int .i64 ↑n4, .int .i64 ↑j] (sf_l3_b1 k a w x n1 n2 n3 n4 wc r1 r2 r3 r4) [])) := by kernel_rfl
theorem sf_q3 (k a w : Int) (x : OX) (n1 n2 n3 n4 : Nat) (wc r1 r2 r3 r4 : List LV) (K : Pk) : (xsp prog cxG1 40 55 (sfB.drop 3) (mkTm 55 (sfT 3)) (mkS (sfH wc k a w x n1 n2 n3 n4 r1 r2 r3 r4)) (vK sfL K)) = (
 K .normal [.ptr 1 0, .any, .any, .slo 2 0 4 0, .int .i64 4, .int .i64 4, .any, .any, .any] [sC wc 1, sN [.int .i64 k, .int .i64 a, .int .u64 (ox1 x), .int .u64 w, .int .u64 (ox2 x), .bool (oxb x), .int .i64 (ox4 x), .int .u64 (ox5 x), .bool (oxc x), .int .i64 (ox6 x)], sC [.slo 3 0 n1 0, .slo 4 0 n2 0, .slo 5 0 n3 0, .slo 6 0 n4 0] 1, sC r1 1, sC r2 1, sC r3 1, sC r4 1] []) := by kernel_rfl
theorem sf_z (k a w : Int) (x : OX) (n1 n2 n3 n4 : Nat) (wc r1 r2 r3 r4 : List LV) (K : Pk) : (xsp prog cxG1 40 55 (sfS.drop 8) (mkTm 55 (sfT 4)) (mkS (sfH wc k a w x n1 n2 n3 n4 r1 r2 r3 r4)) (vK sfL K)) = (
 K .ret [.ptr 1 0, .bool true, .any, .slo 2 0 4 0, .int .i64 4, .int .i64 4, .any, .any, .any] [sC wc 1, sN [.int .i64 k, .int .i64 a, .int .u64 (ox1 x), .int .u64 w, .int .u64 (ox2 x), .bool (oxb x), .int .i64 (ox4 x), .int .u64 (ox5 x), .bool (oxc x), .int .i64 (ox6 x)], sC [.slo 3 0 n1 0, .slo 4 0 n2 0, .slo 5 0 n3 0, .slo 6 0 n4 0] 1, sC r1 1, sC r2 1, sC r3 1, sC r4 1] []) := by kernel_rfl
abbrev of_g_b1 (k : Int) (a : Int) (w : Int) (x : OX) (wc : List LV) : List (Option LB) := [sC wc 1, sN [.int .i64 k, .int .i64 a, .int .u64 (ox1 x), .int .u64 w, .int .u64 (ox2 x), .bool (oxb x), .int .i64 (ox4 x), .int .u64 (ox5 x), .bool (oxc x), .int .i64 (ox6 x)], sC [.slo 3 0 (ln1 wc) 0, .slo 4 0 (ln2 wc) 0, .slo 5 0 (ln3 wc) 0, .slo 6 0 (ln4 wc) 0] 1, sC (lc1 wc) 1, sC (lc2 wc) 1, sC (lc3 wc) 1, sC (lc4 wc) 1]
theorem of_g (n : Nat) (k a w : Int) (x : OX) (wc : List LV) (K : Pk) : (xsp prog cxG1 40 63 (seg ofS 0 5) (tm0 [.slo 0 0 n 0, .agg (opC k a w x)]) (mkS [.cells wc (some 1)]) (vK ofL K)) = (
 ck (lgW wc n) <|
 bif xcm .neq k 1 then (
 bif xcm .neq k 2 then (
 K .ret [.ptr 1 0, .bool true, .slo 2 0 4 0, .tup [], .tup []] (of_g_b1 k a w x wc) [])
 else (
 K .normal [.ptr 1 0, .bool false, .slo 2 0 4 0, .int .i64 0, .tup []] (of_g_b1 k a w x wc) []))
 else (
 K .normal [.ptr 1 0, .bool false, .slo 2 0 4 0, .int .i64 0, .tup []] (of_g_b1 k a w x wc) [])) := by kernel_rfl
theorem of_h (n : Nat) (k a w : Int) (x : OX) (wc : List LV) (K : Pk) : (xsp prog cxB1 40 63 (seg ofS 0 5) (tm0 [.slo 0 0 n 0, .agg (opC k a w x)]) (mkS [.cells wc (some 1)]) (vK ofL K)) = (
 ck (lbW wc n) <|
 K .ret [.ptr 1 0, .bool true, .nils, .tup [], .tup []] [sC wc 1, sN [.int .i64 k, .int .i64 a, .int .u64 (ox1 x), .int .u64 w, .int .u64 (ox2 x), .bool (oxb x), .int .i64 (ox4 x), .int .u64 (ox5 x), .bool (oxc x), .int .i64 (ox6 x)]] []) := by kernel_rfl
theorem of_o0 (k a w : Int) (x : OX) (n1 n2 n3 n4 : Nat) (wc r1 r2 r3 r4 : List LV) (K : Pk) : (xsp prog cxG1 40 63 (seg ofB 0 2) (mkTm 63 (ofT 0)) (mkS (sfH wc k a w x n1 n2 n3 n4 r1 r2 r3 r4)) (vK ofL K)) = (
 K .normal [.ptr 1 0, .any, .slo 2 0 4 0, .int .i64 0, .any] [sC wc 1, sN [.int .i64 k, .int .i64 a, .int .u64 (ox1 x), .int .u64 w, .int .u64 (ox2 x), .bool (oxb x), .int .i64 (ox4 x), .int .u64 (ox5 x), .bool (oxc x), .int .i64 (ox6 x)], sC [.slo 3 0 n1 0, .slo 4 0 n2 0, .slo 5 0 n3 0, .slo 6 0 n4 0] 1, sC r1 1, sC r2 1, sC r3 1, sC r4 1] []) := by kernel_rfl
theorem of_o1 (k a w : Int) (x : OX) (n1 n2 n3 n4 : Nat) (wc r1 r2 r3 r4 : List LV) (K : Pk) : (xsp prog cxG1 40 63 (seg ofB 0 2) (mkTm 63 (ofT 1)) (mkS (sfH wc k a w x n1 n2 n3 n4 r1 r2 r3 r4)) (vK ofL K)) = (
 K .normal [.ptr 1 0, .any, .slo 2 0 4 0, .int .i64 1, .any] [sC wc 1, sN [.int .i64 k, .int .i64 a, .int .u64 (ox1 x), .int .u64 w, .int .u64 (ox2 x), .bool (oxb x), .int .i64 (ox4 x), .int .u64 (ox5 x), .bool (oxc x), .int .i64 (ox6 x)], sC [.slo 3 0 n1 0, .slo 4 0 n2 0, .slo 5 0 n3 0, .slo 6 0 n4 0] 1, sC r1 1, sC r2 1, sC r3 1, sC r4 1] []) := by kernel_rfl
theorem of_o2 (k a w : Int) (x : OX) (n1 n2 n3 n4 : Nat) (wc r1 r2 r3 r4 : List LV) (K : Pk) : (xsp prog cxG1 40 63 (seg ofB 0 2) (mkTm 63 (ofT 2)) (mkS (sfH wc k a w x n1 n2 n3 n4 r1 r2 r3 r4)) (vK ofL K)) = (
 K .normal [.ptr 1 0, .any, .slo 2 0 4 0, .int .i64 2, .any] [sC wc 1, sN [.int .i64 k, .int .i64 a, .int .u64 (ox1 x), .int .u64 w, .int .u64 (ox2 x), .bool (oxb x), .int .i64 (ox4 x), .int .u64 (ox5 x), .bool (oxc x), .int .i64 (ox6 x)], sC [.slo 3 0 n1 0, .slo 4 0 n2 0, .slo 5 0 n3 0, .slo 6 0 n4 0] 1, sC r1 1, sC r2 1, sC r3 1, sC r4 1] []) := by kernel_rfl
theorem of_o3 (k a w : Int) (x : OX) (n1 n2 n3 n4 : Nat) (wc r1 r2 r3 r4 : List LV) (K : Pk) : (xsp prog cxG1 40 63 (seg ofB 0 2) (mkTm 63 (ofT 3)) (mkS (sfH wc k a w x n1 n2 n3 n4 r1 r2 r3 r4)) (vK ofL K)) = (
 K .normal [.ptr 1 0, .any, .slo 2 0 4 0, .int .i64 3, .any] [sC wc 1, sN [.int .i64 k, .int .i64 a, .int .u64 (ox1 x), .int .u64 w, .int .u64 (ox2 x), .bool (oxb x), .int .i64 (ox4 x), .int .u64 (ox5 x), .bool (oxc x), .int .i64 (ox6 x)], sC [.slo 3 0 n1 0, .slo 4 0 n2 0, .slo 5 0 n3 0, .slo 6 0 n4 0] 1, sC r1 1, sC r2 1, sC r3 1, sC r4 1] []) := by kernel_rfl
theorem of_o4 (k a w : Int) (x : OX) (n1 n2 n3 n4 : Nat) (wc r1 r2 r3 r4 : List LV) (K : Pk) : (xsp prog cxG1 40 63 (seg ofB 0 2) (mkTm 63 (ofT 4)) (mkS (sfH wc k a w x n1 n2 n3 n4 r1 r2 r3 r4)) (vK ofL K)) = (
 K (.exit 0) [.ptr 1 0, .any, .slo 2 0 4 0, .int .i64 4, .any] [sC wc 1, sN [.int .i64 k, .int .i64 a, .int .u64 (ox1 x), .int .u64 w, .int .u64 (ox2 x), .bool (oxb x), .int .i64 (ox4 x), .int .u64 (ox5 x), .bool (oxc x), .int .i64 (ox6 x)], sC [.slo 3 0 n1 0, .slo 4 0 n2 0, .slo 5 0 n3 0, .slo 6 0 n4 0] 1, sC r1 1, sC r2 1, sC r3 1, sC r4 1] []) := by kernel_rfl
theorem of_p0 (k a w : Int) (x : OX) (n1 n2 n3 n4 : Nat) (wc r1 r2 r3 r4 : List LV) (K : Pk) : (xsp prog cxG1 40 63 (seg ofC 0 1) (mkTm 63 (ofT 0)) (mkS (sfH wc k a w x n1 n2 n3 n4 r1 r2 r3 r4)) (vK ofL K)) = (
 K .normal [.ptr 1 0, .any, .slo 2 0 4 0, .int .i64 0, .int .i64 0] [sC wc 1, sN [.int .i64 k, .int .i64 a, .int .u64 (ox1 x), .int .u64 w, .int .u64 (ox2 x), .bool (oxb x), .int .i64 (ox4 x), .int .u64 (ox5 x), .bool (oxc x), .int .i64 (ox6 x)], sC [.slo 3 0 n1 0, .slo 4 0 n2 0, .slo 5 0 n3 0, .slo 6 0 n4 0] 1, sC r1 1, sC r2 1, sC r3 1, sC r4 1] []) := by kernel_rfl
abbrev of_l0_b1 (k : Int) (a : Int) (w : Int) (x : OX) (n1 : Nat) (n2 : Nat) (n3 : Nat) (n4 : Nat) (wc : List LV) (r1 : List LV) (r2 : List LV) (r3 : List LV) (r4 : List LV) : List (Option LB) := [sC wc 1, sN [.int .i64 k, .int .i64 a, .int .u64 (ox1 x), .int .u64 w, .int .u64 (ox2 x), .bool (oxb x), .int .i64 (ox4 x), .int .u64 (ox5 x), .bool (oxc x), .int .i64 (ox6 x)], sC [.slo 3 0 n1 0, .slo 4 0 n2 0, .slo 5 0 n3 0, .slo 6 0 n4 0] 1, sC r1 1, sC r2 1, sC r3 1, sC r4 1]
theorem of_l0 (j : Nat) (k a w : Int) (x : OX) (n1 n2 n3 n4 : Nat) (wc r1 r2 r3 r4 : List LV) (K : Pk) : (xcode prog cxG1 40 63 (loopOf (nthC ofC 1)) (mkTm 63 (ofU 0 j)) (mkS (sfH wc k a w x n1 n2 n3 n4 r1 r2 r3 r4)) (vK ofL K)) = (
 bif xcm .lss ↑j ↑n1 then (
 ck (xle (xadd (xnat ↑j) 1) n1) <|
 ck (xle (xadd (xix 0 (xnat ↑j) 1) 1) (xln r1)) <|
 ck (isI .i64 (nthD r1 (xix 0 (xnat ↑j) 1))) <|
 bif xcm .gtr a (asI (nthD r1 (xix 0 (xnat ↑j) 1))) then (
 ck (xcm .eql a a) <|
 ck (xcm .eql a a) <|
 bif xcm .lss a (xar .add .i64 (asI (nthD r1 (xix 0 (xnat ↑j) 1))) 2) then (
 K .ret [.ptr 1 0, .bool false, .slo 2 0 4 0, .int .i64 0, .int .i64 ↑j] (of_l0_b1 k a w x n1 n2 n3 n4 wc r1 r2 r3 r4) [])
 else (
 K .normal [.ptr 1 0, .any, .slo 2 0 4 0, .int .i64 0, .int .i64 (xar .add .i64 (↑j) 1)] (of_l0_b1 k a w x n1 n2 n3 n4 wc r1 r2 r3 r4) []))
 else (
 K .normal [.ptr 1 0, .any, .slo 2 0 4 0, .int .i64 0, .int .i64 (xar .add .i64 (↑j) 1)] (of_l0_b1 k a w x n1 n2 n3 n4 wc r1 r2 r3 r4) []))
 else (
 K (.exit 2) [.ptr 1 0, .any, .slo 2 0 4 0, .int .i64 0, .int .i64 ↑j] (of_l0_b1 k a w x n1 n2 n3 n4 wc r1 r2 r3 r4) [])) := by kernel_rfl
theorem of_q0 (k a w : Int) (x : OX) (n1 n2 n3 n4 : Nat) (wc r1 r2 r3 r4 : List LV) (K : Pk) : (xsp prog cxG1 40 63 (ofB.drop 3) (mkTm 63 (ofT 0)) (mkS (sfH wc k a w x n1 n2 n3 n4 r1 r2 r3 r4)) (vK ofL K)) = (
 K .normal [.ptr 1 0, .any, .slo 2 0 4 0, .int .i64 1, .any] [sC wc 1, sN [.int .i64 k, .int .i64 a, .int .u64 (ox1 x), .int .u64 w, .int .u64 (ox2 x), .bool (oxb x), .int .i64 (ox4 x), .int .u64 (ox5 x), .bool (oxc x), .int .i64 (ox6 x)], sC [.slo 3 0 n1 0, .slo 4 0 n2 0, .slo 5 0 n3 0, .slo 6 0 n4 0] 1, sC r1 1, sC r2 1, sC r3 1, sC r4 1] []) := by kernel_rfl
theorem of_p1 (k a w : Int) (x : OX) (n1 n2 n3 n4 : Nat) (wc r1 r2 r3 r4 : List LV) (K : Pk) : (xsp prog cxG1 40 63 (seg ofC 0 1) (mkTm 63 (ofT 1)) (mkS (sfH wc k a w x n1 n2 n3 n4 r1 r2 r3 r4)) (vK ofL K)) = (
 K .normal [.ptr 1 0, .any, .slo 2 0 4 0, .int .i64 1, .int .i64 0] [sC wc 1, sN [.int .i64 k, .int .i64 a, .int .u64 (ox1 x), .int .u64 w, .int .u64 (ox2 x), .bool (oxb x), .int .i64 (ox4 x), .int .u64 (ox5 x), .bool (oxc x), .int .i64 (ox6 x)], sC [.slo 3 0 n1 0, .slo 4 0 n2 0, .slo 5 0 n3 0, .slo 6 0 n4 0] 1, sC r1 1, sC r2 1, sC r3 1, sC r4 1] []) := by kernel_rfl
abbrev of_l1_b1 (k : Int) (a : Int) (w : Int) (x : OX) (n1 : Nat) (n2 : Nat) (n3 : Nat) (n4 : Nat) (wc : List LV) (r1 : List LV) (r2 : List LV) (r3 : List LV) (r4 : List LV) : List (Option LB) := [sC wc 1, sN [.int .i64 k, .int .i64 a, .int .u64 (ox1 x), .int .u64 w, .int .u64 (ox2 x), .bool (oxb x), .int .i64 (ox4 x), .int .u64 (ox5 x), .bool (oxc x), .int .i64 (ox6 x)], sC [.slo 3 0 n1 0, .slo 4 0 n2 0, .slo 5 0 n3 0, .slo 6 0 n4 0] 1, sC r1 1, sC r2 1, sC r3 1, sC r4 1]
theorem of_l1 (j : Nat) (k a w : Int) (x : OX) (n1 n2 n3 n4 : Nat) (wc r1 r2 r3 r4 : List LV) (K : Pk) : (xcode prog cxG1 40 63 (loopOf (nthC ofC 1)) (mkTm 63 (ofU 1 j)) (mkS (sfH wc k a w x n1 n2 n3 n4 r1 r2 r3 r4)) (vK ofL K)) = (
 bif xcm .lss ↑j ↑n2 then (
 ck (xle (xadd (xnat ↑j) 1) n2) <|
 ck (xle (xadd (xix 0 (xnat ↑j) 1) 1) (xln r2)) <|
 ck (isI .i64 (nthD r2 (xix 0 (xnat ↑j) 1))) <|
 bif xcm .gtr a (asI (nthD r2 (xix 0 (xnat ↑j) 1))) then (
 ck (xcm .eql a a) <|
 ck (xcm .eql a a) <|
 bif xcm .lss a (xar .add .i64 (asI (nthD r2 (xix 0 (xnat ↑j) 1))) 4) then (
 K .ret [.ptr 1 0, .bool false, .slo 2 0 4 0, .int .i64 1, .int .i64 ↑j] (of_l1_b1 k a w x n1 n2 n3 n4 wc r1 r2 r3 r4) [])
 else (
 K .normal [.ptr 1 0, .any, .slo 2 0 4 0, .int .i64 1, .int .i64 (xar .add .i64 (↑j) 1)] (of_l1_b1 k a w x n1 n2 n3 n4 wc r1 r2 r3 r4) []))
 else (
 K .normal [.ptr 1 0, .any, .slo 2 0 4 0, .int .i64 1, .int .i64 (xar .add .i64 (↑j) 1)] (of_l1_b1 k a w x n1 n2 n3 n4 wc r1 r2 r3 r4) []))
 else (
 K (.exit 2) [.ptr 1 0, .any, .slo 2 0 4 0, .int .i64 1, .int .i64 ↑j] (of_l1_b1 k a w x n1 n2 n3 n4 wc r1 r2 r3 r4) [])) := by kernel_rfl
theorem of_q1 (k a w : Int) (x : OX) (n1 n2 n3 n4 : Nat) (wc r1 r2 r3 r4 : List LV) (K : Pk) : (xsp prog cxG1 40 63 (ofB.drop 3) (mkTm 63 (ofT 1)) (mkS (sfH wc k a w x n1 n2 n3 n4 r1 r2 r3 r4)) (vK ofL K)) = (
 K .normal [.ptr 1 0, .any, .slo 2 0 4 0, .int .i64 2, .any] [sC wc 1, sN [.int .i64 k, .int .i64 a, .int .u64 (ox1 x), .int .u64 w, .int .u64 (ox2 x), .bool (oxb x), .int .i64 (ox4 x), .int .u64 (ox5 x), .bool (oxc x), .int .i64 (ox6 x)], sC [.slo 3 0 n1 0, .slo 4 0 n2 0, .slo 5 0 n3 0, .slo 6 0 n4 0] 1, sC r1 1, sC r2 1, sC r3 1, sC r4 1] []) := by kernel_rfl
theorem of_p2 (k a w : Int) (x : OX) (n1 n2 n3 n4 : Nat) (wc r1 r2 r3 r4 : List LV) (K : Pk) : (xsp prog cxG1 40 63 (seg ofC 0 1) (mkTm 63 (ofT 2)) (mkS (sfH wc k a w x n1 n2 n3 n4 r1 r2 r3 r4)) (vK ofL K)) = (
 K .normal [.ptr 1 0, .any, .slo 2 0 4 0, .int .i64 2, .int .i64 0] [sC wc 1, sN [.int .i64 k, .int .i64 a, .int .u64 (ox1 x), .int .u64 w, .int .u64 (ox2 x), .bool (oxb x), .int .i64 (ox4 x), .int .u64 (ox5 x), .bool (oxc x), .int .i64 (ox6 x)], sC [.slo 3 0 n1 0, .slo 4 0 n2 0, .slo 5 0 n3 0, .slo 6 0 n4 0] 1, sC r1 1, sC r2 1, sC r3 1, sC r4 1] []) := by kernel_rfl
abbrev of_l2_b1 (k : Int) (a : Int) (w : Int) (x : OX) (n1 : Nat) (n2 : Nat) (n3 : Nat) (n4 : Nat) (wc : List LV) (r1 : List LV) (r2 : List LV) (r3 : List LV) (r4 : List LV) : List (Option LB) := [sC wc 1, sN [.int .i64 k, .int .i64 a, .int .u64 (ox1 x), .int .u64 w, .int .u64 (ox2 x), .bool (oxb x), .int .i64 (ox4 x), .int .u64 (ox5 x), .bool (oxc x), .int .i64 (ox6 x)], sC [.slo 3 0 n1 0, .slo 4 0 n2 0, .slo 5 0 n3 0, .slo 6 0 n4 0] 1, sC r1 1, sC r2 1, sC r3 1, sC r4 1]
theorem of_l2 (j : Nat) (k a w : Int) (x : OX) (n1 n2 n3 n4 : Nat) (wc r1 r2 r3 r4 : List LV) (K : Pk) : (xcode prog cxG1 40 63 (loopOf (nthC ofC 1)) (mkTm 63 (ofU 2 j)) (mkS (sfH wc k a w x n1 n2 n3 n4 r1 r2 r3 r4)) (vK ofL K)) = (
 bif xcm .lss ↑j ↑n3 then (
 ck (xle (xadd (xnat ↑j) 1) n3) <|
 ck (xle (xadd (xix 0 (xnat ↑j) 1) 1) (xln r3)) <|
 ck (isI .i64 (nthD r3 (xix 0 (xnat ↑j) 1))) <|
 bif xcm .gtr a (asI (nthD r3 (xix 0 (xnat ↑j) 1))) then (
 ck (xcm .eql a a) <|
 ck (xcm .eql a a) <|
 bif xcm .lss a (xar .add .i64 (asI (nthD r3 (xix 0 (xnat ↑j) 1))) 8) then (
 K .ret [.ptr 1 0, .bool false, .slo 2 0 4 0, .int .i64 2, .int .i64 ↑j] (of_l2_b1 k a w x n1 n2 n3 n4 wc r1 r2 r3 r4) [])
 else (
 K .normal [.ptr 1 0, .any, .slo 2 0 4 0, .int .i64 2, .int .i64 (xar .add .i64 (↑j) 1)] (of_l2_b1 k a w x n1 n2 n3 n4 wc r1 r2 r3 r4) []))
 else (
 K .normal [.ptr 1 0, .any, .slo 2 0 4 0, .int .i64 2, .int .i64 (xar .add .i64 (↑j) 1)] (of_l2_b1 k a w x n1 n2 n3 n4 wc r1 r2 r3 r4) []))
 else (
 K (.exit 2) [.ptr 1 0, .any, .slo 2 0 4 0, .int .i64 2, .int .i64 ↑j] (of_l2_b1 k a w x n1 n2 n3 n4 wc r1 r2 r3 r4) [])) := by kernel_rfl
theorem of_q2 (k a w : Int) (x : OX) (n1 n2 n3 n4 : Nat) (wc r1 r2 r3 r4 : List LV) (K : Pk) : (xsp prog cxG1 40 63 (ofB.drop 3) (mkTm 63 (ofT 2)) (mkS (sfH wc k a w x n1 n2 n3 n4 r1 r2 r3 r4)) (vK ofL K)) = (
 K .normal [.ptr 1 0, .any, .slo 2 0 4 0, .int .i64 3, .any] [sC wc 1, sN [.int .i64 k, .int .i64 a, .int .u64 (ox1 x), .int .u64 w, .int .u64 (ox2 x), .bool (oxb x), .int .i64 (ox4 x), .int .u64 (ox5 x), .bool (oxc x), .int .i64 (ox6 x)], sC [.slo 3 0 n1 0, .slo 4 0 n2 0, .slo 5 0 n3 0, .slo 6 0 n4 0] 1, sC r1 1, sC r2 1, sC r3 1, sC r4 1] []) := by kernel_rfl
theorem of_p3 (k a w : Int) (x : OX) (n1 n2 n3 n4 : Nat) (wc r1 r2 r3 r4 : List LV) (K : Pk) : (xsp prog cxG1 40 63 (seg ofC 0 1) (mkTm 63 (ofT 3)) (mkS (sfH wc k a w x n1 n2 n3 n4 r1 r2 r3 r4)) (vK ofL K)) = (
 K .normal [.ptr 1 0, .any, .slo 2 0 4 0, .int .i64 3, .int .i64 0] [sC wc 1, sN [.int .i64 k, .int .i64 a, .int .u64 (ox1 x), .int .u64 w, .int .u64 (ox2 x), .bool (oxb x), .int .i64 (ox4 x), .int .u64 (ox5 x), .bool (oxc x), .int .i64 (ox6 x)], sC [.slo 3 0 n1 0, .slo 4 0 n2 0, .slo 5 0 n3 0, .slo 6 0 n4 0] 1, sC r1 1, sC r2 1, sC r3 1, sC r4 1] []) := by kernel_rfl
abbrev of_l3_b1 (k : Int) (a : Int) (w : Int) (x : OX) (n1 : Nat) (n2 : Nat) (n3 : Nat) (n4 : Nat) (wc : List LV) (r1 : List LV) (r2 : List LV) (r3 : List LV) (r4 : List LV) : List (Option LB) := [sC wc 1, sN [.int .i64 k, .int .i64 a, .int .u64 (ox1 x), .int .u64 w, .int .u64 (ox2 x), .bool (oxb x), .int .i64 (ox4 x), .int .u64 (ox5 x), .bool (oxc x), .int .i64 (ox6 x)], sC [.slo 3 0 n1 0, .slo 4 0 n2 0, .slo 5 0 n3 0, .slo 6 0 n4 0] 1, sC r1 1, sC r2 1, sC r3 1, sC r4 1]
theorem of_l3 (j : Nat) (k a w : Int) (x : OX) (n1 n2 n3 n4 : Nat) (wc r1 r2 r3 r4 : List LV) (K : Pk) : (xcode prog cxG1 40 63 (loopOf (nthC ofC 1)) (mkTm 63 (ofU 3 j)) (mkS (sfH wc k a w x n1 n2 n3 n4 r1 r2 r3 r4)) (vK ofL K)) = (
 bif xcm .lss ↑j ↑n4 then (
 ck (xle (xadd (xnat ↑j) 1) n4) <|
 ck (xle (xadd (xix 0 (xnat ↑j) 1) 1) (xln r4)) <|
 ck (isI .i64 (nthD r4 (xix 0 (xnat ↑j) 1))) <|
 bif xcm .gtr a (asI (nthD r4 (xix 0 (xnat ↑j) 1))) then (
 ck (xcm .eql a a) <|
 ck (xcm .eql a a) <|
 bif xcm .lss a (xar .add .i64 (asI (nthD r4 (xix 0 (xnat ↑j) 1))) 16) then (
 K .ret [.ptr 1 0, .bool false, .slo 2 0 4 0, .int .i64 3, .int .i64 ↑j] (of_l3_b1 k a w x n1 n2 n3 n4 wc r1 r2 r3 r4) [])
 else (
 K .normal [.ptr 1 0, .any, .slo 2 0 4 0, .int .i64 3, .int .i64 (xar .add .i64 (↑j) 1)] (of_l3_b1 k a w x n1 n2 n3 n4 wc r1 r2 r3 r4) []))
 else (
 K .normal [.ptr 1 0, .any, .slo 2 0 4 0, .int .i64 3, .int .i64 (xar .add .i64 (↑j) 1)] (of_l3_b1 k a w x n1 n2 n3 n4 wc r1 r2 r3 r4) []))
 else (
 K (.exit 2) [.ptr 1 0, .any, .slo 2 0 4 0, .int .i64 3, .int .i64 ↑j] (of_l3_b1 k a w x n1 n2 n3 n4 wc r1 r2 r3 r4) [])) := by kernel_rfl
theorem of_q3 (k a w : Int) (x : OX) (n1 n2 n3 n4 : Nat) (wc r1 r2 r3 r4 : List LV) (K : Pk) : (xsp prog cxG1 40 63 (ofB.drop 3) (mkTm 63 (ofT 3)) (mkS (sfH wc k a w x n1 n2 n3 n4 r1 r2 r3 r4)) (vK ofL K)) = (
 K .normal [.ptr 1 0, .any, .slo 2 0 4 0, .int .i64 4, .any] [sC wc 1, sN [.int .i64 k, .int .i64 a, .int .u64 (ox1 x), .int .u64 w, .int .u64 (ox2 x), .bool (oxb x), .int .i64 (ox4 x), .int .u64 (ox5 x), .bool (oxc x), .int .i64 (ox6 x)], sC [.slo 3 0 n1 0, .slo 4 0 n2 0, .slo 5 0 n3 0, .slo 6 0 n4 0] 1, sC r1 1, sC r2 1, sC r3 1, sC r4 1] []) := by kernel_rfl
theorem of_z (k a w : Int) (x : OX) (n1 n2 n3 n4 : Nat) (wc r1 r2 r3 r4 : List LV) (K : Pk) : (xsp prog cxG1 40 63 (ofS.drop 6) (mkTm 63 (ofT 4)) (mkS (sfH wc k a w x n1 n2 n3 n4 r1 r2 r3 r4)) (vK ofL K)) = (
 K .ret [.ptr 1 0, .bool true, .slo 2 0 4 0, .int .i64 4, .any] [sC wc 1, sN [.int .i64 k, .int .i64 a, .int .u64 (ox1 x), .int .u64 w, .int .u64 (ox2 x), .bool (oxb x), .int .i64 (ox4 x), .int .u64 (ox5 x), .bool (oxc x), .int .i64 (ox6 x)], sC [.slo 3 0 n1 0, .slo 4 0 n2 0, .slo 5 0 n3 0, .slo 6 0 n4 0] 1, sC r1 1, sC r2 1, sC r3 1, sC r4 1] []) := by kernel_rfl
end
end Go.Lev
