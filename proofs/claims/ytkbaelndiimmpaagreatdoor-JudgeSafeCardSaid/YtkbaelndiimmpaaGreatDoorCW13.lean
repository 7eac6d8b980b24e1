/- chapter 30: JudgeSafe: trees -/
import Derived.Test.YtkbaelndiimmpaaGreatDoorCW12
import Derived.Test.YtkbaelndiimmpaaGreatDoorLc
import Derived.Test.YtkbaelndiimmpaaGreatDoorChecked
import Derived.KernelRfl

import Derived.Test.YtkbaelndiimmpaaGreatDoorLc
import Derived.Test.YtkbaelndiimmpaaGreatDoorRows
namespace Go.Lev
open Go.RowKit
open Go.Proofs.Tryz (prog)
set_option linter.unusedVariables false
set_option linter.unusedSimpArgs false
set_option maxRecDepth 100000
noncomputable section
def formsL : List LV := flatD Go.Proofs.YtkbaelndiimmpaaGreatDoor.Rows.laid_quietus_code_forms
def gtab : Glb := [(0, formsL)]
def runGt : Gc := fun args s => match args, s.g with
  | [], [(g0, F0)] => cond (Nat.beq g0 0 && eqbs F0 formsL) (some ([], .bool true, s)) none
  | _, _ => none
def cxj : Cx := cxl [(5, runGt), (6, wrapG wdsG), (7, wrapG withinG), (8, wrapG sfG), (9, wrapG osfG)]
abbrev jsS : List Code := sp prog 3
abbrev jsL : List Nat := [7, 10, 11, 12]
abbrev jsT (N : Nat) : List (Nat × LV) := [(7, .ptr 1 0), (11, .slo 2 0 N 0), (12, .slo 3 0 N 0)]
abbrev jsH (bx wc xc : List LV) (k a w : Int) (x : OX) : List LB := [.ro bx, .cells (opC k a w x) none, .cells wc (some 1), .cells xc (some 1)]
theorem js_a (n k a w tu v : Int) (x : OX) (m : Nat) (bx : List LV) (K : Pk) : (xsp prog cxj 60 60 (seg jsS 0 6) (tm0 [.int .i64 n, .slo 0 0 m 0, .agg (opC k a w x), .int .u8 tu, .int .u8 v]) (mkS [.ro bx] gtab) (vK jsL K)) = (
 ck (okB8 bx m) <|
 ck (xle (xadd 0 (xmul (wdN n) 1)) (xln (wdC n bx))) <|
 ck (xle (xmul (wdN n) 8) 140737488355328) <|
 ck (xle (wdN n) 140737488355328) <|
 ck (xcm .neq (↑(wdN n)) 0) <|
 ck (xnn (xar .rem .i64 (xwr .i64 tu) ↑(wdN n))) <|
 ck (xle (xadd (xnat (xar .rem .i64 (xwr .i64 tu) ↑(wdN n))) 1) (wdN n)) <|
 ck (xle (xadd (xix 0 (xnat (xar .rem .i64 (xwr .i64 tu) ↑(wdN n))) 1) 1) (xln (xcut (wdC n bx) 0 (xmul (wdN n) 1)))) <|
 K .normal [.ptr 1 0, .bool false, .slo 2 0 (wdN n) 0, .slo 3 0 (wdN n) 0] [some (.ro bx), sN [.int .i64 k, .int .i64 a, .int .u64 (ox1 x), .int .u64 w, .int .u64 (ox2 x), .bool (oxb x), .int .i64 (ox4 x), .int .u64 (ox5 x), .bool (oxc x), .int .i64 (ox6 x)], sC (wdC n bx) 1, sC (xlay (xcut (wdC n bx) 0 (xmul (wdN n) 1)) (xix 0 (xnat (xar .rem .i64 (xwr .i64 tu) ↑(wdN n))) 1) [.int .u64 (xwr .u64 (xar .rem .u8 v 40))]) 1] gtab) := by kernel_rfl
theorem js_b (N : Nat) (k a w : Int) (x : OX) (bx wc xc : List LV) (K : Pk) : (xsp prog cxj 60 60 (seg jsS 6 3) (mkTm 60 (jsT N)) (mkS (jsH bx wc xc k a w x) gtab) (vK jsL K)) = (
 bif xcm .gtr (xar .rem .u64 w 8) 0 then (
 ck (xcm .leq (-1) ↑N) <|
 ck (xcm .leq (↑N) 1000000) <|
 K .normal [.ptr 1 0, .any, .slo 2 0 N 0, .slo 3 0 N 0] [some (.ro bx), sN [.int .i64 (wthV k 0 4), .int .i64 (wthV a (-1) ↑N), .int .u64 (ox1 x), .int .u64 w, .int .u64 (ox2 x), .bool (oxb x), .int .i64 (ox4 x), .int .u64 (ox5 x), .bool (oxc x), .int .i64 (ox6 x)], sC wc 1, sC xc 1] gtab)
 else (
 K .normal [.ptr 1 0, .any, .slo 2 0 N 0, .slo 3 0 N 0] [some (.ro bx), sN [.int .i64 (wthV k 0 4), .int .i64 a, .int .u64 (ox1 x), .int .u64 w, .int .u64 (ox2 x), .bool (oxb x), .int .i64 (ox4 x), .int .u64 (ox5 x), .bool (oxc x), .int .i64 (ox6 x)], sC wc 1, sC xc 1] gtab)) := by kernel_rfl
theorem js_z (N : Nat) (k a w : Int) (x : OX) (bx wc xc : List LV) (K : Pk) : (xsp prog cxj 60 60 (jsS.drop 9) (mkTm 60 (jsT N)) (mkS (jsH bx wc xc k a w x) gtab) (vK jsL K)) = (
 ck (okU wc N) <|
 ck (xle N 100000) <|
 ck (okU wc N) <|
 ck (xle N 100000) <|
 bif xbq (saW wc k a) (saW wc k a) then (
 ck (okU xc N) <|
 ck (xle N 100000) <|
 ck (okU xc N) <|
 ck (xle N 100000) <|
 ck (xcm .eql k k) <|
 ck (xcm .eql a a) <|
 ck (xcm .eql (ox1 x) (ox1 x)) <|
 ck (xcm .eql w w) <|
 ck (xcm .eql (ox2 x) (ox2 x)) <|
 ck (xbq (oxb x) (oxb x)) <|
 ck (xcm .eql (ox4 x) (ox4 x)) <|
 ck (xcm .eql (ox5 x) (ox5 x)) <|
 ck (xbq (oxc x) (oxc x)) <|
 ck (xcm .eql (ox6 x) (ox6 x)) <|
 ck (xcm .eql k k) <|
 ck (xcm .eql a a) <|
 ck (xcm .eql (ox1 x) (ox1 x)) <|
 ck (xcm .eql w w) <|
 ck (xcm .eql (ox2 x) (ox2 x)) <|
 ck (xbq (oxb x) (oxb x)) <|
 ck (xcm .eql (ox4 x) (ox4 x)) <|
 ck (xcm .eql (ox5 x) (ox5 x)) <|
 ck (xbq (oxc x) (oxc x)) <|
 ck (xcm .eql (ox6 x) (ox6 x)) <|
 ck (xcm .eql k k) <|
 ck (xcm .eql a a) <|
 ck (xcm .eql (ox1 x) (ox1 x)) <|
 ck (xcm .eql w w) <|
 ck (xcm .eql (ox2 x) (ox2 x)) <|
 ck (xbq (oxb x) (oxb x)) <|
 ck (xcm .eql (ox4 x) (ox4 x)) <|
 ck (xcm .eql (ox5 x) (ox5 x)) <|
 ck (xbq (oxc x) (oxc x)) <|
 ck (xcm .eql (ox6 x) (ox6 x)) <|
 ck (xcm .eql k k) <|
 ck (xcm .eql a a) <|
 ck (xcm .eql (ox1 x) (ox1 x)) <|
 ck (xcm .eql w w) <|
 ck (xcm .eql (ox2 x) (ox2 x)) <|
 ck (xbq (oxb x) (oxb x)) <|
 ck (xcm .eql (ox4 x) (ox4 x)) <|
 ck (xcm .eql (ox5 x) (ox5 x)) <|
 ck (xbq (oxc x) (oxc x)) <|
 ck (xcm .eql (ox6 x) (ox6 x)) <|
 K .ret [.ptr 1 0, .bool (xbq (saW xc k a) (saW xc k a)), .slo 2 0 N 0, .slo 3 0 N 0] [some (.ro bx), sN [.int .i64 k, .int .i64 a, .int .u64 (ox1 x), .int .u64 w, .int .u64 (ox2 x), .bool (oxb x), .int .i64 (ox4 x), .int .u64 (ox5 x), .bool (oxc x), .int .i64 (ox6 x)], sC wc 1, sC xc 1] gtab)
 else (
 ck (xcm .eql k k) <|
 ck (xcm .eql a a) <|
 ck (xcm .eql (ox1 x) (ox1 x)) <|
 ck (xcm .eql w w) <|
 ck (xcm .eql (ox2 x) (ox2 x)) <|
 ck (xbq (oxb x) (oxb x)) <|
 ck (xcm .eql (ox4 x) (ox4 x)) <|
 ck (xcm .eql (ox5 x) (ox5 x)) <|
 ck (xbq (oxc x) (oxc x)) <|
 ck (xcm .eql (ox6 x) (ox6 x)) <|
 ck (xcm .eql k k) <|
 ck (xcm .eql a a) <|
 ck (xcm .eql (ox1 x) (ox1 x)) <|
 ck (xcm .eql w w) <|
 ck (xcm .eql (ox2 x) (ox2 x)) <|
 ck (xbq (oxb x) (oxb x)) <|
 ck (xcm .eql (ox4 x) (ox4 x)) <|
 ck (xcm .eql (ox5 x) (ox5 x)) <|
 ck (xbq (oxc x) (oxc x)) <|
 ck (xcm .eql (ox6 x) (ox6 x)) <|
 K .ret [.ptr 1 0, .bool false, .slo 2 0 N 0, .slo 3 0 N 0] [some (.ro bx), sN [.int .i64 k, .int .i64 a, .int .u64 (ox1 x), .int .u64 w, .int .u64 (ox2 x), .bool (oxb x), .int .i64 (ox4 x), .int .u64 (ox5 x), .bool (oxc x), .int .i64 (ox6 x)], sC wc 1, sC xc 1] gtab)) := by kernel_rfl
theorem js_o (N : Nat) (k a w : Int) (x : OX) (bx wc xc : List LV) (K : Pk) : (xorders prog cxj 60 60 (nthC jsS 9) (mkTm 60 (jsT N)) (mkS (jsH bx wc xc k a w x) gtab) (vK jsL K)) = (
 ck (okU wc N) <|
 ck (xle N 100000) <|
 ck (okU wc N) <|
 ck (xle N 100000) <|
 bif xbq (saW wc k a) (saW wc k a) then (
 ck (okU xc N) <|
 ck (xle N 100000) <|
 ck (okU xc N) <|
 ck (xle N 100000) <|
 ck (xcm .eql k k) <|
 ck (xcm .eql a a) <|
 ck (xcm .eql (ox1 x) (ox1 x)) <|
 ck (xcm .eql w w) <|
 ck (xcm .eql (ox2 x) (ox2 x)) <|
 ck (xbq (oxb x) (oxb x)) <|
 ck (xcm .eql (ox4 x) (ox4 x)) <|
 ck (xcm .eql (ox5 x) (ox5 x)) <|
 ck (xbq (oxc x) (oxc x)) <|
 ck (xcm .eql (ox6 x) (ox6 x)) <|
 ck (xcm .eql k k) <|
 ck (xcm .eql a a) <|
 ck (xcm .eql (ox1 x) (ox1 x)) <|
 ck (xcm .eql w w) <|
 ck (xcm .eql (ox2 x) (ox2 x)) <|
 ck (xbq (oxb x) (oxb x)) <|
 ck (xcm .eql (ox4 x) (ox4 x)) <|
 ck (xcm .eql (ox5 x) (ox5 x)) <|
 ck (xbq (oxc x) (oxc x)) <|
 ck (xcm .eql (ox6 x) (ox6 x)) <|
 ck (xcm .eql k k) <|
 ck (xcm .eql a a) <|
 ck (xcm .eql (ox1 x) (ox1 x)) <|
 ck (xcm .eql w w) <|
 ck (xcm .eql (ox2 x) (ox2 x)) <|
 ck (xbq (oxb x) (oxb x)) <|
 ck (xcm .eql (ox4 x) (ox4 x)) <|
 ck (xcm .eql (ox5 x) (ox5 x)) <|
 ck (xbq (oxc x) (oxc x)) <|
 ck (xcm .eql (ox6 x) (ox6 x)) <|
 ck (xcm .eql k k) <|
 ck (xcm .eql a a) <|
 ck (xcm .eql (ox1 x) (ox1 x)) <|
 ck (xcm .eql w w) <|
 ck (xcm .eql (ox2 x) (ox2 x)) <|
 ck (xbq (oxb x) (oxb x)) <|
 ck (xcm .eql (ox4 x) (ox4 x)) <|
 ck (xcm .eql (ox5 x) (ox5 x)) <|
 ck (xbq (oxc x) (oxc x)) <|
 ck (xcm .eql (ox6 x) (ox6 x)) <|
 K .normal [.ptr 1 0, .bool (xbq (saW xc k a) (saW xc k a)), .slo 2 0 N 0, .slo 3 0 N 0] [some (.ro bx), sN [.int .i64 k, .int .i64 a, .int .u64 (ox1 x), .int .u64 w, .int .u64 (ox2 x), .bool (oxb x), .int .i64 (ox4 x), .int .u64 (ox5 x), .bool (oxc x), .int .i64 (ox6 x)], sC wc 1, sC xc 1] gtab)
 else (
 ck (xcm .eql k k) <|
 ck (xcm .eql a a) <|
 ck (xcm .eql (ox1 x) (ox1 x)) <|
 ck (xcm .eql w w) <|
 ck (xcm .eql (ox2 x) (ox2 x)) <|
 ck (xbq (oxb x) (oxb x)) <|
 ck (xcm .eql (ox4 x) (ox4 x)) <|
 ck (xcm .eql (ox5 x) (ox5 x)) <|
 ck (xbq (oxc x) (oxc x)) <|
 ck (xcm .eql (ox6 x) (ox6 x)) <|
 ck (xcm .eql k k) <|
 ck (xcm .eql a a) <|
 ck (xcm .eql (ox1 x) (ox1 x)) <|
 ck (xcm .eql w w) <|
 ck (xcm .eql (ox2 x) (ox2 x)) <|
 ck (xbq (oxb x) (oxb x)) <|
 ck (xcm .eql (ox4 x) (ox4 x)) <|
 ck (xcm .eql (ox5 x) (ox5 x)) <|
 ck (xbq (oxc x) (oxc x)) <|
 ck (xcm .eql (ox6 x) (ox6 x)) <|
 K .normal [.ptr 1 0, .bool false, .slo 2 0 N 0, .slo 3 0 N 0] [some (.ro bx), sN [.int .i64 k, .int .i64 a, .int .u64 (ox1 x), .int .u64 w, .int .u64 (ox2 x), .bool (oxb x), .int .i64 (ox4 x), .int .u64 (ox5 x), .bool (oxc x), .int .i64 (ox6 x)], sC wc 1, sC xc 1] gtab)) := by kernel_rfl
end
end Go.Lev
