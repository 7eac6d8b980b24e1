/- CheckTells: the reference's Check: trees -/
import Derived.Test.YtnpcobjiaimbhaaDoorCW5
import Derived.Test.YtnpcobjiaimbhaaDoorLc
import Derived.Test.YtnpcobjiaimbhaaDoorChecked
import Derived.KernelRfl

namespace Go.Lev
open Go.RowKit
set_option linter.unusedVariables false
set_option linter.unusedSimpArgs false
set_option maxRecDepth 100000
noncomputable section
def ckR : Cx := cxl [(24, rmayG)]
abbrev rkL2 : List Nat := [1, 2, 3, 4, 5, 6, 7, 8, 9, 10, 11, 12]
abbrev rkT0 : List (Nat × LV) := [(1, .ptr 1 0), (6, .slo 2 0 0 0)]
abbrev rkT1 (n : Nat) : List (Nat × LV) := [(1, .ptr 1 0), (6, .slo 2 0 0 0), (7, .sl 3 0 n n), (8, .sl 4 0 n n)]
abbrev rkT (n k i : Nat) : List (Nat × LV) := [(1, .ptr 1 0), (6, .slo 2 0 k 0), (7, .sl 3 0 n n), (8, .sl 4 0 n n), (9, .int .i64 i)]
abbrev rkT2 (n k : Nat) : List (Nat × LV) := [(1, .ptr 1 0), (6, .slo 2 0 k 0), (7, .sl 3 0 n n), (8, .sl 4 0 n n)]
abbrev rkU (n i : Nat) : List (Nat × LV) := [(1, .ptr 1 0), (7, .sl 3 0 n n), (8, .sl 4 0 n n), (12, .int .i64 i)]
abbrev rkH0 (n : Nat) (ls st : List LV) : List LB := [.ro ls, .cells [.slo 0 0 n 0] none, .cells st (some 2)]
abbrev rkH (n : Nat) (ls st rc mc : List LV) : List LB := [.ro ls, .cells [.slo 0 0 n 0] none, .cells st (some 2), .cells rc none, .cells mc none]
abbrev rkA (n k i : Nat) : List (Nat × LV) := (10, .ptr 5 0) :: rkT n k i
abbrev rkB (n k i : Nat) (op : Int) : List (Nat × LV) := (10, .ptr 5 0) :: (11, .int .i64 op) :: rkT n k i
abbrev rkI (n : Nat) (x y : Int) (ls st rc mc : List LV) : List LB := [.ro ls, .cells [.slo 0 0 n 0] none, .cells st (some 2), .cells rc none, .cells mc none, .cells [.int .i64 x, .int .i64 y] none]
abbrev rkV (n : Nat) (ls rc mc : List LV) : List LB := [.ro ls, .cells [.slo 0 0 n 0] none, .dead, .cells rc none, .cells mc none]
theorem rk_a (n : Nat) (ls : List LV) (K : Pk) : (xsp Go.Proofs.Tryd.prog ckR 60 227 (seg (sp Go.Proofs.Tryd.prog 16) 0 4) (tm0 [.agg [.slo 0 0 n 0]]) (mkS [.ro ls]) (vK rkL2 K)) = (
 bif xcm .eql (↑n) 0 then (
 K .ret [.ptr 1 0, .int .i64 0, .int .i64 4, .nils, .nils, .tup [], .tup [], .tup [], .tup [], .tup [], .tup [], .tup []] [some (.ro ls), some (.cells [.slo 0 0 n 0] none)] [])
 else (
 bif xcm .gtr (↑n) 40 then (
 K .ret [.ptr 1 0, .int .i64 0, .int .i64 4, .nils, .nils, .tup [], .tup [], .tup [], .tup [], .tup [], .tup [], .tup []] [some (.ro ls), some (.cells [.slo 0 0 n 0] none)] [])
 else (
 K .normal [.ptr 1 0, .int .i64 0, .int .i64 0, .nils, .nils, .nils, .tup [], .tup [], .tup [], .tup [], .tup [], .tup []] [some (.ro ls), some (.cells [.slo 0 0 n 0] none)] []))) := by kernel_rfl
theorem rk_o (n : Nat) (ls : List LV) (K : Pk) : (xorders Go.Proofs.Tryd.prog ckR 60 227 (nthC (sp Go.Proofs.Tryd.prog 16) 4) (mkTm 227 rkT0) (mkS (rkH0 n ls []) []) (vK rkL2 K)) = (
 (
 bif xle (xnat ↑n) (xnat ↑n) then
 bif xle (xnat ↑n) 100000 then
 bif xle (xnat ↑n) (xnat ↑n) then
 bif xle (xnat ↑n) 100000 then
 bif xeq n n then
 bif xeq n n then
 bif xeq n n then
 bif xeq n n then
 K .normal [.ptr 1 0, .any, .any, .any, .any, .slo 2 0 0 0, .sl 3 0 (xnat ↑n) (xnat ↑n), .sl 4 0 (xnat ↑n) (xnat ↑n), .any, .any, .any, .any] [some (.ro ls), some (.cells [.slo 0 0 n 0] none), some (.cells [] (some 2)), some (.cells (xrep (xnat ↑n) [.int .i64 0]) none), some (.cells (xrep (xnat ↑n) [.int .i64 0]) none)] []
 else False
 else False
 else False
 else False
 else False
 else False
 else False
 else False)
 ∧ (
 bif xle (xnat ↑n) (xnat ↑n) then
 bif xle (xnat ↑n) 100000 then
 bif xle (xnat ↑n) (xnat ↑n) then
 bif xle (xnat ↑n) 100000 then
 bif xeq n n then
 bif xeq n n then
 bif xeq n n then
 bif xeq n n then
 K .normal [.ptr 1 0, .any, .any, .any, .any, .slo 2 0 0 0, .sl 4 0 (xnat ↑n) (xnat ↑n), .sl 3 0 (xnat ↑n) (xnat ↑n), .any, .any, .any, .any] [some (.ro ls), some (.cells [.slo 0 0 n 0] none), some (.cells [] (some 2)), some (.cells (xrep (xnat ↑n) [.int .i64 0]) none), some (.cells (xrep (xnat ↑n) [.int .i64 0]) none)] []
 else False
 else False
 else False
 else False
 else False
 else False
 else False
 else False)) := by kernel_rfl
theorem rk_b (n : Nat) (ls st rc mc : List LV) (K : Pk) : (xsp Go.Proofs.Tryd.prog ckR 60 227 (seg (sp Go.Proofs.Tryd.prog 16) 5 1) (mkTm 227 (rkT1 n)) (mkS (rkH n ls st rc mc)) (vK rkL2 K)) = (
 K .normal [.ptr 1 0, .any, .any, .any, .any, .slo 2 0 0 0, .sl 3 0 n n, .sl 4 0 n n, .int .i64 0, .any, .any, .any] [some (.ro ls), some (.cells [.slo 0 0 n 0] none), some (.cells st (some 2)), some (.cells rc none), some (.cells mc none)] []) := by kernel_rfl
abbrev rb_h_b1 (n : Nat) (ls : List LV) (st : List LV) (rc : List LV) (mc : List LV) : List (Option LB) := [some (.ro ls), some (.cells [.slo 0 0 n 0] none), some (.cells st (some 2)), some (.cells rc none), some (.cells mc none)]
theorem rb_h (n k i : Nat) (ls st rc mc : List LV) (K : Pk) : (xsp Go.Proofs.Tryd.prog ckR 60 227 (seg (spineL (loopOf (nthC (sp Go.Proofs.Tryd.prog 16) 6))) 0 2) (mkTm 227 (rkT n k i)) (mkS (rkH n ls st rc mc)) (vK rkL2 K)) = (
 bif xcm .lss ↑i ↑n then (
 K .normal [.ptr 1 0, .any, .any, .any, .any, .slo 2 0 k 0, .sl 3 0 n n, .sl 4 0 n n, .int .i64 ↑i, .any, .any, .any] (rb_h_b1 n ls st rc mc) [])
 else (
 K (.exit 0) [.ptr 1 0, .any, .any, .any, .any, .slo 2 0 k 0, .sl 3 0 n n, .sl 4 0 n n, .int .i64 ↑i, .any, .any, .any] (rb_h_b1 n ls st rc mc) [])) := by kernel_rfl
theorem rb_a (n k i : Nat) (ls st rc mc : List LV) (K : Pk) : (xsp Go.Proofs.Tryd.prog ckR 60 227 (seg (spineL (blockIn (nthC (spineL (loopOf (nthC (sp Go.Proofs.Tryd.prog 16) 6))) 2))) 0 3) (mkTm 227 (rkT n k i)) (mkS (rkH n ls st rc mc)) (vK rkL2 K)) = (
 bif xcm .gtr (↑k) 0 then (
 bif xnn (xar .sub .i64 (↑k) 1) then
 bif xle (xadd (xnat (xar .sub .i64 (↑k) 1)) 1) k then
 bif xle (xadd (xix 0 (xnat (xar .sub .i64 (↑k) 1)) 2) 2) (xln st) then
 bif isI .i64 (nthD st (xix 0 (xnat (xar .sub .i64 (↑k) 1)) 2)) then
 bif isI .i64 (nthD st (xadd (xix 0 (xnat (xar .sub .i64 (↑k) 1)) 2) 1)) then
 K .normal [.ptr 1 0, .any, .any, .any, .any, .slo 2 0 k 0, .sl 3 0 n n, .sl 4 0 n n, .int .i64 ↑i, .ptr 5 0, .any, .any] [some (.ro ls), some (.cells [.slo 0 0 n 0] none), some (.cells st (some 2)), some (.cells rc none), some (.cells mc none), some (.cells [.int .i64 (asI (nthD st (xix 0 (xnat (xar .sub .i64 (↑k) 1)) 2))), .int .i64 (asI (nthD st (xadd (xix 0 (xnat (xar .sub .i64 (↑k) 1)) 2) 1)))] none)] []
 else False
 else False
 else False
 else False
 else False)
 else (
 K .normal [.ptr 1 0, .any, .any, .any, .any, .slo 2 0 k 0, .sl 3 0 n n, .sl 4 0 n n, .int .i64 ↑i, .ptr 5 0, .any, .any] [some (.ro ls), some (.cells [.slo 0 0 n 0] none), some (.cells st (some 2)), some (.cells rc none), some (.cells mc none), some (.cells [.int .i64 (-1), .int .i64 0] none)] [])) := by kernel_rfl
theorem rb_b (n k i : Nat) (x y : Int) (ls st rc mc : List LV) (K : Pk) : (xsp Go.Proofs.Tryd.prog ckR 60 227 (seg (spineL (blockIn (nthC (spineL (loopOf (nthC (sp Go.Proofs.Tryd.prog 16) 6))) 2))) 3 3) (mkTm 227 (rkA n k i)) (mkS (rkI n x y ls st rc mc)) (vK rkL2 K)) = (
 bif xle (xadd (xnat ↑i) 1) n then
 bif xle (xadd (xix 0 (xnat ↑i) 1) 1) (xln rc) then
 bif xle (xadd (xnat ↑i) 1) n then
 bif xle (xadd (xix 0 (xnat ↑i) 1) 1) (xln mc) then
 bif xle (xadd (xnat ↑i) 1) n then
 bif xle (xadd (xix 0 (xnat ↑i) 5) 5) (xln ls) then
 bif isI .i64 (nthD ls (xix 0 (xnat ↑i) 5)) then
 bif isI .i64 (nthD ls (xadd (xix 0 (xnat ↑i) 5) 1)) then
 bif isI .i64 (nthD ls (xadd (xadd (xix 0 (xnat ↑i) 5) 1) 1)) then
 bif isI .i64 (nthD ls (xadd (xadd (xadd (xix 0 (xnat ↑i) 5) 1) 1) 1)) then
 bif isI .u64 (nthD ls (xadd (xadd (xadd (xadd (xix 0 (xnat ↑i) 5) 1) 1) 1) 1)) then
 bif xnot (mayW (asI (nthD ls (xix 0 (xnat ↑i) 5))) (asI (nthD ls (xadd (xix 0 (xnat ↑i) 5) 1))) (asI (nthD ls (xadd (xadd (xix 0 (xnat ↑i) 5) 1) 1))) (asI (nthD ls (xadd (xadd (xadd (xix 0 (xnat ↑i) 5) 1) 1) 1))) (asI (nthD ls (xadd (xadd (xadd (xadd (xix 0 (xnat ↑i) 5) 1) 1) 1) 1)))) then (
 K .ret [.ptr 1 0, .int .i64 ↑i, .int .i64 8, .nils, .nils, .slo 2 0 k 0, .sl 3 0 n n, .sl 4 0 n n, .int .i64 ↑i, .ptr 5 0, .any, .any] [some (.ro ls), some (.cells [.slo 0 0 n 0] none), some (.cells st (some 2)), some (.cells (xlay rc (xix 0 (xnat ↑i) 1) [.int .i64 x]) none), some (.cells (xlay mc (xix 0 (xnat ↑i) 1) [.int .i64 (-1)]) none), some (.cells [.int .i64 x, .int .i64 y] none)] [])
 else (
 K .normal [.ptr 1 0, .any, .any, .any, .any, .slo 2 0 k 0, .sl 3 0 n n, .sl 4 0 n n, .int .i64 ↑i, .ptr 5 0, .any, .any] [some (.ro ls), some (.cells [.slo 0 0 n 0] none), some (.cells st (some 2)), some (.cells (xlay rc (xix 0 (xnat ↑i) 1) [.int .i64 x]) none), some (.cells (xlay mc (xix 0 (xnat ↑i) 1) [.int .i64 (-1)]) none), some (.cells [.int .i64 x, .int .i64 y] none)] [])
 else False
 else False
 else False
 else False
 else False
 else False
 else False
 else False
 else False
 else False
 else False) := by kernel_rfl
abbrev rb_c_b1 (n : Nat) (x : Int) (y : Int) (ls : List LV) (st : List LV) (rc : List LV) (mc : List LV) : List (Option LB) := [some (.ro ls), some (.cells [.slo 0 0 n 0] none), some (.cells st (some 2)), some (.cells rc none), some (.cells mc none), some (.cells [.int .i64 x, .int .i64 y] none)]
theorem rb_c (n k i : Nat) (x y : Int) (ls st rc mc : List LV) (K : Pk) : (xsp Go.Proofs.Tryd.prog ckR 60 227 (seg (spineL (blockIn (nthC (spineL (loopOf (nthC (sp Go.Proofs.Tryd.prog 16) 6))) 2))) 6 3) (mkTm 227 (rkA n k i)) (mkS (rkI n x y ls st rc mc)) (vK rkL2 K)) = (
 bif xle (xadd (xnat ↑i) 1) n then
 bif xle (xadd (xix 0 (xnat ↑i) 5) 1) (xln ls) then
 bif isI .i64 (nthD ls (xix 0 (xnat ↑i) 5)) then
 bif xcm .eql (asI (nthD ls (xix 0 (xnat ↑i) 5))) 15 then (
 bif xcm .neq y 14 then (
 K .ret [.ptr 1 0, .int .i64 ↑i, .int .i64 12, .nils, .nils, .slo 2 0 k 0, .sl 3 0 n n, .sl 4 0 n n, .int .i64 ↑i, .ptr 5 0, .int .i64 (asI (nthD ls (xix 0 (xnat ↑i) 5))), .any] (rb_c_b1 n x y ls st rc mc) [])
 else (
 bif xcm .eql (asI (nthD ls (xix 0 (xnat ↑i) 5))) 18 then (
 bif xcm .neq y 17 then (
 K .ret [.ptr 1 0, .int .i64 ↑i, .int .i64 12, .nils, .nils, .slo 2 0 k 0, .sl 3 0 n n, .sl 4 0 n n, .int .i64 ↑i, .ptr 5 0, .int .i64 (asI (nthD ls (xix 0 (xnat ↑i) 5))), .any] (rb_c_b1 n x y ls st rc mc) [])
 else (
 bif xcm .eql (asI (nthD ls (xix 0 (xnat ↑i) 5))) 19 then (
 bif xcm .neq y 18 then (
 K .ret [.ptr 1 0, .int .i64 ↑i, .int .i64 12, .nils, .nils, .slo 2 0 k 0, .sl 3 0 n n, .sl 4 0 n n, .int .i64 ↑i, .ptr 5 0, .int .i64 (asI (nthD ls (xix 0 (xnat ↑i) 5))), .any] (rb_c_b1 n x y ls st rc mc) [])
 else (
 bif xcm .eql (asI (nthD ls (xix 0 (xnat ↑i) 5))) 16 then (
 bif xcm .neq y 14 then (
 K .ret [.ptr 1 0, .int .i64 ↑i, .int .i64 12, .nils, .nils, .slo 2 0 k 0, .sl 3 0 n n, .sl 4 0 n n, .int .i64 ↑i, .ptr 5 0, .int .i64 (asI (nthD ls (xix 0 (xnat ↑i) 5))), .any] (rb_c_b1 n x y ls st rc mc) [])
 else (
 K .normal [.ptr 1 0, .any, .any, .any, .any, .slo 2 0 k 0, .sl 3 0 n n, .sl 4 0 n n, .int .i64 ↑i, .ptr 5 0, .int .i64 (asI (nthD ls (xix 0 (xnat ↑i) 5))), .any] (rb_c_b1 n x y ls st rc mc) []))
 else (
 K .normal [.ptr 1 0, .any, .any, .any, .any, .slo 2 0 k 0, .sl 3 0 n n, .sl 4 0 n n, .int .i64 ↑i, .ptr 5 0, .int .i64 (asI (nthD ls (xix 0 (xnat ↑i) 5))), .any] (rb_c_b1 n x y ls st rc mc) [])))
 else (
 bif xcm .eql (asI (nthD ls (xix 0 (xnat ↑i) 5))) 16 then (
 bif xcm .neq y 14 then (
 K .ret [.ptr 1 0, .int .i64 ↑i, .int .i64 12, .nils, .nils, .slo 2 0 k 0, .sl 3 0 n n, .sl 4 0 n n, .int .i64 ↑i, .ptr 5 0, .int .i64 (asI (nthD ls (xix 0 (xnat ↑i) 5))), .any] (rb_c_b1 n x y ls st rc mc) [])
 else (
 K .normal [.ptr 1 0, .any, .any, .any, .any, .slo 2 0 k 0, .sl 3 0 n n, .sl 4 0 n n, .int .i64 ↑i, .ptr 5 0, .int .i64 (asI (nthD ls (xix 0 (xnat ↑i) 5))), .any] (rb_c_b1 n x y ls st rc mc) []))
 else (
 K .normal [.ptr 1 0, .any, .any, .any, .any, .slo 2 0 k 0, .sl 3 0 n n, .sl 4 0 n n, .int .i64 ↑i, .ptr 5 0, .int .i64 (asI (nthD ls (xix 0 (xnat ↑i) 5))), .any] (rb_c_b1 n x y ls st rc mc) []))))
 else (
 bif xcm .eql (asI (nthD ls (xix 0 (xnat ↑i) 5))) 19 then (
 bif xcm .neq y 18 then (
 K .ret [.ptr 1 0, .int .i64 ↑i, .int .i64 12, .nils, .nils, .slo 2 0 k 0, .sl 3 0 n n, .sl 4 0 n n, .int .i64 ↑i, .ptr 5 0, .int .i64 (asI (nthD ls (xix 0 (xnat ↑i) 5))), .any] (rb_c_b1 n x y ls st rc mc) [])
 else (
 bif xcm .eql (asI (nthD ls (xix 0 (xnat ↑i) 5))) 16 then (
 bif xcm .neq y 14 then (
 K .ret [.ptr 1 0, .int .i64 ↑i, .int .i64 12, .nils, .nils, .slo 2 0 k 0, .sl 3 0 n n, .sl 4 0 n n, .int .i64 ↑i, .ptr 5 0, .int .i64 (asI (nthD ls (xix 0 (xnat ↑i) 5))), .any] (rb_c_b1 n x y ls st rc mc) [])
 else (
 K .normal [.ptr 1 0, .any, .any, .any, .any, .slo 2 0 k 0, .sl 3 0 n n, .sl 4 0 n n, .int .i64 ↑i, .ptr 5 0, .int .i64 (asI (nthD ls (xix 0 (xnat ↑i) 5))), .any] (rb_c_b1 n x y ls st rc mc) []))
 else (
 K .normal [.ptr 1 0, .any, .any, .any, .any, .slo 2 0 k 0, .sl 3 0 n n, .sl 4 0 n n, .int .i64 ↑i, .ptr 5 0, .int .i64 (asI (nthD ls (xix 0 (xnat ↑i) 5))), .any] (rb_c_b1 n x y ls st rc mc) [])))
 else (
 bif xcm .eql (asI (nthD ls (xix 0 (xnat ↑i) 5))) 16 then (
 bif xcm .neq y 14 then (
 K .ret [.ptr 1 0, .int .i64 ↑i, .int .i64 12, .nils, .nils, .slo 2 0 k 0, .sl 3 0 n n, .sl 4 0 n n, .int .i64 ↑i, .ptr 5 0, .int .i64 (asI (nthD ls (xix 0 (xnat ↑i) 5))), .any] (rb_c_b1 n x y ls st rc mc) [])
 else (
 K .normal [.ptr 1 0, .any, .any, .any, .any, .slo 2 0 k 0, .sl 3 0 n n, .sl 4 0 n n, .int .i64 ↑i, .ptr 5 0, .int .i64 (asI (nthD ls (xix 0 (xnat ↑i) 5))), .any] (rb_c_b1 n x y ls st rc mc) []))
 else (
 K .normal [.ptr 1 0, .any, .any, .any, .any, .slo 2 0 k 0, .sl 3 0 n n, .sl 4 0 n n, .int .i64 ↑i, .ptr 5 0, .int .i64 (asI (nthD ls (xix 0 (xnat ↑i) 5))), .any] (rb_c_b1 n x y ls st rc mc) [])))))
 else (
 bif xcm .eql (asI (nthD ls (xix 0 (xnat ↑i) 5))) 18 then (
 bif xcm .neq y 17 then (
 K .ret [.ptr 1 0, .int .i64 ↑i, .int .i64 12, .nils, .nils, .slo 2 0 k 0, .sl 3 0 n n, .sl 4 0 n n, .int .i64 ↑i, .ptr 5 0, .int .i64 (asI (nthD ls (xix 0 (xnat ↑i) 5))), .any] (rb_c_b1 n x y ls st rc mc) [])
 else (
 bif xcm .eql (asI (nthD ls (xix 0 (xnat ↑i) 5))) 19 then (
 bif xcm .neq y 18 then (
 K .ret [.ptr 1 0, .int .i64 ↑i, .int .i64 12, .nils, .nils, .slo 2 0 k 0, .sl 3 0 n n, .sl 4 0 n n, .int .i64 ↑i, .ptr 5 0, .int .i64 (asI (nthD ls (xix 0 (xnat ↑i) 5))), .any] (rb_c_b1 n x y ls st rc mc) [])
 else (
 bif xcm .eql (asI (nthD ls (xix 0 (xnat ↑i) 5))) 16 then (
 bif xcm .neq y 14 then (
 K .ret [.ptr 1 0, .int .i64 ↑i, .int .i64 12, .nils, .nils, .slo 2 0 k 0, .sl 3 0 n n, .sl 4 0 n n, .int .i64 ↑i, .ptr 5 0, .int .i64 (asI (nthD ls (xix 0 (xnat ↑i) 5))), .any] (rb_c_b1 n x y ls st rc mc) [])
 else (
 K .normal [.ptr 1 0, .any, .any, .any, .any, .slo 2 0 k 0, .sl 3 0 n n, .sl 4 0 n n, .int .i64 ↑i, .ptr 5 0, .int .i64 (asI (nthD ls (xix 0 (xnat ↑i) 5))), .any] (rb_c_b1 n x y ls st rc mc) []))
 else (
 K .normal [.ptr 1 0, .any, .any, .any, .any, .slo 2 0 k 0, .sl 3 0 n n, .sl 4 0 n n, .int .i64 ↑i, .ptr 5 0, .int .i64 (asI (nthD ls (xix 0 (xnat ↑i) 5))), .any] (rb_c_b1 n x y ls st rc mc) [])))
 else (
 bif xcm .eql (asI (nthD ls (xix 0 (xnat ↑i) 5))) 16 then (
 bif xcm .neq y 14 then (
 K .ret [.ptr 1 0, .int .i64 ↑i, .int .i64 12, .nils, .nils, .slo 2 0 k 0, .sl 3 0 n n, .sl 4 0 n n, .int .i64 ↑i, .ptr 5 0, .int .i64 (asI (nthD ls (xix 0 (xnat ↑i) 5))), .any] (rb_c_b1 n x y ls st rc mc) [])
 else (
 K .normal [.ptr 1 0, .any, .any, .any, .any, .slo 2 0 k 0, .sl 3 0 n n, .sl 4 0 n n, .int .i64 ↑i, .ptr 5 0, .int .i64 (asI (nthD ls (xix 0 (xnat ↑i) 5))), .any] (rb_c_b1 n x y ls st rc mc) []))
 else (
 K .normal [.ptr 1 0, .any, .any, .any, .any, .slo 2 0 k 0, .sl 3 0 n n, .sl 4 0 n n, .int .i64 ↑i, .ptr 5 0, .int .i64 (asI (nthD ls (xix 0 (xnat ↑i) 5))), .any] (rb_c_b1 n x y ls st rc mc) []))))
 else (
 bif xcm .eql (asI (nthD ls (xix 0 (xnat ↑i) 5))) 19 then (
 bif xcm .neq y 18 then (
 K .ret [.ptr 1 0, .int .i64 ↑i, .int .i64 12, .nils, .nils, .slo 2 0 k 0, .sl 3 0 n n, .sl 4 0 n n, .int .i64 ↑i, .ptr 5 0, .int .i64 (asI (nthD ls (xix 0 (xnat ↑i) 5))), .any] (rb_c_b1 n x y ls st rc mc) [])
 else (
 bif xcm .eql (asI (nthD ls (xix 0 (xnat ↑i) 5))) 16 then (
 bif xcm .neq y 14 then (
 K .ret [.ptr 1 0, .int .i64 ↑i, .int .i64 12, .nils, .nils, .slo 2 0 k 0, .sl 3 0 n n, .sl 4 0 n n, .int .i64 ↑i, .ptr 5 0, .int .i64 (asI (nthD ls (xix 0 (xnat ↑i) 5))), .any] (rb_c_b1 n x y ls st rc mc) [])
 else (
 K .normal [.ptr 1 0, .any, .any, .any, .any, .slo 2 0 k 0, .sl 3 0 n n, .sl 4 0 n n, .int .i64 ↑i, .ptr 5 0, .int .i64 (asI (nthD ls (xix 0 (xnat ↑i) 5))), .any] (rb_c_b1 n x y ls st rc mc) []))
 else (
 K .normal [.ptr 1 0, .any, .any, .any, .any, .slo 2 0 k 0, .sl 3 0 n n, .sl 4 0 n n, .int .i64 ↑i, .ptr 5 0, .int .i64 (asI (nthD ls (xix 0 (xnat ↑i) 5))), .any] (rb_c_b1 n x y ls st rc mc) [])))
 else (
 bif xcm .eql (asI (nthD ls (xix 0 (xnat ↑i) 5))) 16 then (
 bif xcm .neq y 14 then (
 K .ret [.ptr 1 0, .int .i64 ↑i, .int .i64 12, .nils, .nils, .slo 2 0 k 0, .sl 3 0 n n, .sl 4 0 n n, .int .i64 ↑i, .ptr 5 0, .int .i64 (asI (nthD ls (xix 0 (xnat ↑i) 5))), .any] (rb_c_b1 n x y ls st rc mc) [])
 else (
 K .normal [.ptr 1 0, .any, .any, .any, .any, .slo 2 0 k 0, .sl 3 0 n n, .sl 4 0 n n, .int .i64 ↑i, .ptr 5 0, .int .i64 (asI (nthD ls (xix 0 (xnat ↑i) 5))), .any] (rb_c_b1 n x y ls st rc mc) []))
 else (
 K .normal [.ptr 1 0, .any, .any, .any, .any, .slo 2 0 k 0, .sl 3 0 n n, .sl 4 0 n n, .int .i64 ↑i, .ptr 5 0, .int .i64 (asI (nthD ls (xix 0 (xnat ↑i) 5))), .any] (rb_c_b1 n x y ls st rc mc) []))))
 else False
 else False
 else False) := by kernel_rfl
abbrev rb_d_b1 (n : Nat) (k : Nat) (i : Nat) (x : Int) (y : Int) (op : Int) (ls : List LV) (st : List LV) (rc : List LV) (mc : List LV) : List (Option LB) := [some (.ro ls), some (.cells [.slo 0 0 n 0] none), some (.cells (xlay st (xix 0 (xnat (xar .sub .i64 (↑k) 1)) 2) [.int .i64 ↑i, .int .i64 op]) (some 2)), some (.cells rc none), some (.cells (xlay mc (xix 0 (xnat x) 1) [.int .i64 ↑i]) none), some (.cells [.int .i64 x, .int .i64 y] none)]
abbrev rb_d_b2 (n : Nat) (x : Int) (y : Int) (ls : List LV) (st : List LV) (rc : List LV) (mc : List LV) : List (Option LB) := [some (.ro ls), some (.cells [.slo 0 0 n 0] none), some (.cells st (some 2)), some (.cells rc none), some (.cells mc none), some (.cells [.int .i64 x, .int .i64 y] none)]
abbrev rb_d_b3 (n : Nat) (i : Nat) (x : Int) (y : Int) (ls : List LV) (st : List LV) (rc : List LV) (mc : List LV) : List (Option LB) := [some (.ro ls), some (.cells [.slo 0 0 n 0] none), some (.cells st (some 2)), some (.cells rc none), some (.cells (xlay mc (xix 0 (xnat x) 1) [.int .i64 ↑i]) none), some (.cells [.int .i64 x, .int .i64 y] none)]
theorem rb_d (n k i : Nat) (x y op : Int) (ls st rc mc : List LV) (K : Pk) : (xsp Go.Proofs.Tryd.prog ckR 60 227 ((spineL (blockIn (nthC (spineL (loopOf (nthC (sp Go.Proofs.Tryd.prog 16) 6))) 2))).drop 9) (mkTm 227 (rkB n k i op)) (mkS (rkI n x y ls st rc mc)) (vK rkL2 K)) = (
 bif xcm .eql op 14 then (
 bif xcm .eql op 14 then (
 bif xcm .geq (↑k) 5 then (
 K .ret [.ptr 1 0, .int .i64 ↑i, .int .i64 9, .nils, .nils, .slo 2 0 k 0, .sl 3 0 n n, .sl 4 0 n n, .int .i64 ↑i, .ptr 5 0, .int .i64 op, .any] (rb_d_b2 n x y ls st rc mc) [])
 else (
 bif xle (xadd k 1) 1000000 then
 bif xle (xadd 0 (xmul k 2)) (xln st) then
 K .normal [.ptr 1 0, .any, .any, .any, .any, .slo 7 0 (xadd k 1) 0, .sl 3 0 n n, .sl 4 0 n n, .int .i64 ↑i, .ptr 5 0, .int .i64 op, .any] [some (.ro ls), some (.cells [.slo 0 0 n 0] none), some .dead, some (.cells rc none), some (.cells mc none), some (.cells [.int .i64 x, .int .i64 y] none), some (.cells [.int .i64 ↑i, .int .i64 op] none), some (.cells (xcat (xcut st 0 (xmul k 2)) [.int .i64 ↑i, .int .i64 op]) (some 2))] []
 else False
 else False))
 else (
 bif xcm .eql op 15 then (
 bif xcm .eql op 15 then (
 bif xnn x then
 bif xle (xadd (xnat x) 1) n then
 bif xle (xadd (xix 0 (xnat x) 1) 1) (xln mc) then
 bif xnn (xar .sub .i64 (↑k) 1) then
 bif xle (xnat (xar .sub .i64 (↑k) 1)) k then
 K .normal [.ptr 1 0, .any, .any, .any, .any, .slo 2 0 (xsub (xnat (xar .sub .i64 (↑k) 1)) 0) 0, .sl 3 0 n n, .sl 4 0 n n, .int .i64 ↑i, .ptr 5 0, .int .i64 op, .any] (rb_d_b3 n i x y ls st rc mc) []
 else False
 else False
 else False
 else False
 else False)
 else (
 bif xcm .eql op 18 then (
 bif xnn x then
 bif xle (xadd (xnat x) 1) n then
 bif xle (xadd (xix 0 (xnat x) 1) 1) (xln mc) then
 bif xnn (xar .sub .i64 (↑k) 1) then
 bif xle (xadd (xnat (xar .sub .i64 (↑k) 1)) 1) k then
 bif xle (xadd (xix 0 (xnat (xar .sub .i64 (↑k) 1)) 2) 2) (xln st) then
 K .normal [.ptr 1 0, .any, .any, .any, .any, .slo 2 0 k 0, .sl 3 0 n n, .sl 4 0 n n, .int .i64 ↑i, .ptr 5 0, .int .i64 op, .any] (rb_d_b1 n k i x y op ls st rc mc) []
 else False
 else False
 else False
 else False
 else False
 else False)
 else (
 K .normal [.ptr 1 0, .any, .any, .any, .any, .slo 2 0 k 0, .sl 3 0 n n, .sl 4 0 n n, .int .i64 ↑i, .ptr 5 0, .int .i64 op, .any] (rb_d_b2 n x y ls st rc mc) [])))
 else (
 bif xcm .eql op 19 then (
 bif xnn x then
 bif xle (xadd (xnat x) 1) n then
 bif xle (xadd (xix 0 (xnat x) 1) 1) (xln mc) then
 bif xnn (xar .sub .i64 (↑k) 1) then
 bif xle (xnat (xar .sub .i64 (↑k) 1)) k then
 K .normal [.ptr 1 0, .any, .any, .any, .any, .slo 2 0 (xsub (xnat (xar .sub .i64 (↑k) 1)) 0) 0, .sl 3 0 n n, .sl 4 0 n n, .int .i64 ↑i, .ptr 5 0, .int .i64 op, .any] (rb_d_b3 n i x y ls st rc mc) []
 else False
 else False
 else False
 else False
 else False)
 else (
 bif xcm .eql op 18 then (
 bif xnn x then
 bif xle (xadd (xnat x) 1) n then
 bif xle (xadd (xix 0 (xnat x) 1) 1) (xln mc) then
 bif xnn (xar .sub .i64 (↑k) 1) then
 bif xle (xadd (xnat (xar .sub .i64 (↑k) 1)) 1) k then
 bif xle (xadd (xix 0 (xnat (xar .sub .i64 (↑k) 1)) 2) 2) (xln st) then
 K .normal [.ptr 1 0, .any, .any, .any, .any, .slo 2 0 k 0, .sl 3 0 n n, .sl 4 0 n n, .int .i64 ↑i, .ptr 5 0, .int .i64 op, .any] (rb_d_b1 n k i x y op ls st rc mc) []
 else False
 else False
 else False
 else False
 else False
 else False)
 else (
 K .normal [.ptr 1 0, .any, .any, .any, .any, .slo 2 0 k 0, .sl 3 0 n n, .sl 4 0 n n, .int .i64 ↑i, .ptr 5 0, .int .i64 op, .any] (rb_d_b2 n x y ls st rc mc) [])))))
 else (
 bif xcm .eql op 17 then (
 bif xcm .geq (↑k) 5 then (
 K .ret [.ptr 1 0, .int .i64 ↑i, .int .i64 9, .nils, .nils, .slo 2 0 k 0, .sl 3 0 n n, .sl 4 0 n n, .int .i64 ↑i, .ptr 5 0, .int .i64 op, .any] (rb_d_b2 n x y ls st rc mc) [])
 else (
 bif xle (xadd k 1) 1000000 then
 bif xle (xadd 0 (xmul k 2)) (xln st) then
 K .normal [.ptr 1 0, .any, .any, .any, .any, .slo 7 0 (xadd k 1) 0, .sl 3 0 n n, .sl 4 0 n n, .int .i64 ↑i, .ptr 5 0, .int .i64 op, .any] [some (.ro ls), some (.cells [.slo 0 0 n 0] none), some .dead, some (.cells rc none), some (.cells mc none), some (.cells [.int .i64 x, .int .i64 y] none), some (.cells [.int .i64 ↑i, .int .i64 op] none), some (.cells (xcat (xcut st 0 (xmul k 2)) [.int .i64 ↑i, .int .i64 op]) (some 2))] []
 else False
 else False))
 else (
 bif xcm .eql op 15 then (
 bif xcm .eql op 15 then (
 bif xnn x then
 bif xle (xadd (xnat x) 1) n then
 bif xle (xadd (xix 0 (xnat x) 1) 1) (xln mc) then
 bif xnn (xar .sub .i64 (↑k) 1) then
 bif xle (xnat (xar .sub .i64 (↑k) 1)) k then
 K .normal [.ptr 1 0, .any, .any, .any, .any, .slo 2 0 (xsub (xnat (xar .sub .i64 (↑k) 1)) 0) 0, .sl 3 0 n n, .sl 4 0 n n, .int .i64 ↑i, .ptr 5 0, .int .i64 op, .any] (rb_d_b3 n i x y ls st rc mc) []
 else False
 else False
 else False
 else False
 else False)
 else (
 bif xcm .eql op 18 then (
 bif xnn x then
 bif xle (xadd (xnat x) 1) n then
 bif xle (xadd (xix 0 (xnat x) 1) 1) (xln mc) then
 bif xnn (xar .sub .i64 (↑k) 1) then
 bif xle (xadd (xnat (xar .sub .i64 (↑k) 1)) 1) k then
 bif xle (xadd (xix 0 (xnat (xar .sub .i64 (↑k) 1)) 2) 2) (xln st) then
 K .normal [.ptr 1 0, .any, .any, .any, .any, .slo 2 0 k 0, .sl 3 0 n n, .sl 4 0 n n, .int .i64 ↑i, .ptr 5 0, .int .i64 op, .any] (rb_d_b1 n k i x y op ls st rc mc) []
 else False
 else False
 else False
 else False
 else False
 else False)
 else (
 K .normal [.ptr 1 0, .any, .any, .any, .any, .slo 2 0 k 0, .sl 3 0 n n, .sl 4 0 n n, .int .i64 ↑i, .ptr 5 0, .int .i64 op, .any] (rb_d_b2 n x y ls st rc mc) [])))
 else (
 bif xcm .eql op 19 then (
 bif xnn x then
 bif xle (xadd (xnat x) 1) n then
 bif xle (xadd (xix 0 (xnat x) 1) 1) (xln mc) then
 bif xnn (xar .sub .i64 (↑k) 1) then
 bif xle (xnat (xar .sub .i64 (↑k) 1)) k then
 K .normal [.ptr 1 0, .any, .any, .any, .any, .slo 2 0 (xsub (xnat (xar .sub .i64 (↑k) 1)) 0) 0, .sl 3 0 n n, .sl 4 0 n n, .int .i64 ↑i, .ptr 5 0, .int .i64 op, .any] (rb_d_b3 n i x y ls st rc mc) []
 else False
 else False
 else False
 else False
 else False)
 else (
 bif xcm .eql op 18 then (
 bif xnn x then
 bif xle (xadd (xnat x) 1) n then
 bif xle (xadd (xix 0 (xnat x) 1) 1) (xln mc) then
 bif xnn (xar .sub .i64 (↑k) 1) then
 bif xle (xadd (xnat (xar .sub .i64 (↑k) 1)) 1) k then
 bif xle (xadd (xix 0 (xnat (xar .sub .i64 (↑k) 1)) 2) 2) (xln st) then
 K .normal [.ptr 1 0, .any, .any, .any, .any, .slo 2 0 k 0, .sl 3 0 n n, .sl 4 0 n n, .int .i64 ↑i, .ptr 5 0, .int .i64 op, .any] (rb_d_b1 n k i x y op ls st rc mc) []
 else False
 else False
 else False
 else False
 else False
 else False)
 else (
 K .normal [.ptr 1 0, .any, .any, .any, .any, .slo 2 0 k 0, .sl 3 0 n n, .sl 4 0 n n, .int .i64 ↑i, .ptr 5 0, .int .i64 op, .any] (rb_d_b2 n x y ls st rc mc) [])))))) := by kernel_rfl
theorem rb_n (n k i : Nat) (ls st rc mc : List LV) (K : Pk) : (xsp Go.Proofs.Tryd.prog ckR 60 227 ((spineL (loopOf (nthC (sp Go.Proofs.Tryd.prog 16) 6))).drop 3) (mkTm 227 (rkT n k i)) (mkS (rkH n ls st rc mc)) (vK rkL2 K)) = (
 K .normal [.ptr 1 0, .any, .any, .any, .any, .slo 2 0 k 0, .sl 3 0 n n, .sl 4 0 n n, .int .i64 (xar .add .i64 (↑i) 1), .any, .any, .any] [some (.ro ls), some (.cells [.slo 0 0 n 0] none), some (.cells st (some 2)), some (.cells rc none), some (.cells mc none)] []) := by kernel_rfl
abbrev rk_c_b1 (n : Nat) (ls : List LV) (st : List LV) (rc : List LV) (mc : List LV) : List (Option LB) := [some (.ro ls), some (.cells [.slo 0 0 n 0] none), some (.cells st (some 2)), some (.cells rc none), some (.cells mc none)]
theorem rk_c (n k : Nat) (ls st rc mc : List LV) (K : Pk) : (xsp Go.Proofs.Tryd.prog ckR 60 227 (seg (sp Go.Proofs.Tryd.prog 16) 7 3) (mkTm 227 (rkT2 n k)) (mkS (rkH n ls st rc mc)) (vK rkL2 K)) = (
 bif xcm .gtr (↑k) 0 then (
 bif xnn (xar .sub .i64 (↑k) 1) then
 bif xle (xadd (xnat (xar .sub .i64 (↑k) 1)) 1) k then
 bif xle (xadd (xix 0 (xnat (xar .sub .i64 (↑k) 1)) 2) 1) (xln st) then
 bif isI .i64 (nthD st (xix 0 (xnat (xar .sub .i64 (↑k) 1)) 2)) then
 K .ret [.ptr 1 0, .int .i64 (asI (nthD st (xix 0 (xnat (xar .sub .i64 (↑k) 1)) 2))), .int .i64 12, .nils, .nils, .slo 2 0 k 0, .sl 3 0 n n, .sl 4 0 n n, .any, .any, .any, .any] (rk_c_b1 n ls st rc mc) []
 else False
 else False
 else False
 else False)
 else (
 K .normal [.ptr 1 0, .any, .any, .any, .any, .slo 2 0 k 0, .sl 3 0 n n, .sl 4 0 n n, .any, .any, .any, .int .i64 0] (rk_c_b1 n ls st rc mc) [])) := by kernel_rfl
abbrev rk_m_b1 (n : Nat) (i : Nat) (ls : List LV) (rc : List LV) (mc : List LV) : List (Option LB) := [some (.ro ls), some (.cells [.slo 0 0 n 0] none), some .dead, some (.cells rc none), some (.cells (xlay mc (xix 0 (xnat ↑i) 1) [.int .i64 (asI (nthD mc (xix 0 (xnat (asI (nthD rc (xix 0 (xnat ↑i) 1)))) 1)))]) none), some (.cells [.int .i64 (asI (nthD ls (xix 0 (xnat ↑i) 5))), .int .i64 (asI (nthD ls (xadd (xix 0 (xnat ↑i) 5) 1))), .int .i64 (asI (nthD ls (xadd (xadd (xix 0 (xnat ↑i) 5) 1) 1))), .int .i64 (asI (nthD ls (xadd (xadd (xadd (xix 0 (xnat ↑i) 5) 1) 1) 1))), .int .u64 (asI (nthD ls (xadd (xadd (xadd (xadd (xix 0 (xnat ↑i) 5) 1) 1) 1) 1)))] none)]
abbrev rk_m_b2 (n : Nat) (i : Nat) (ls : List LV) (rc : List LV) (mc : List LV) : List (Option LB) := [some (.ro ls), some (.cells [.slo 0 0 n 0] none), some .dead, some (.cells rc none), some (.cells mc none), some (.cells [.int .i64 (asI (nthD ls (xix 0 (xnat ↑i) 5))), .int .i64 (asI (nthD ls (xadd (xix 0 (xnat ↑i) 5) 1))), .int .i64 (asI (nthD ls (xadd (xadd (xix 0 (xnat ↑i) 5) 1) 1))), .int .i64 (asI (nthD ls (xadd (xadd (xadd (xix 0 (xnat ↑i) 5) 1) 1) 1))), .int .u64 (asI (nthD ls (xadd (xadd (xadd (xadd (xix 0 (xnat ↑i) 5) 1) 1) 1) 1)))] none)]
theorem rk_m (n i : Nat) (ls rc mc : List LV) (K : Pk) : (xcode Go.Proofs.Tryd.prog ckR 60 227 (loopOf (nthC (sp Go.Proofs.Tryd.prog 16) 10)) (mkTm 227 (rkU n i)) (mkS (rkV n ls rc mc)) (vK rkL2 K)) = (
 bif xcm .lss ↑i ↑n then (
 bif xle (xadd (xnat ↑i) 1) n then
 bif xle (xadd (xix 0 (xnat ↑i) 5) 5) (xln ls) then
 bif isI .i64 (nthD ls (xix 0 (xnat ↑i) 5)) then
 bif isI .i64 (nthD ls (xadd (xix 0 (xnat ↑i) 5) 1)) then
 bif isI .i64 (nthD ls (xadd (xadd (xix 0 (xnat ↑i) 5) 1) 1)) then
 bif isI .i64 (nthD ls (xadd (xadd (xadd (xix 0 (xnat ↑i) 5) 1) 1) 1)) then
 bif isI .u64 (nthD ls (xadd (xadd (xadd (xadd (xix 0 (xnat ↑i) 5) 1) 1) 1) 1)) then
 bif xcm .eql (asI (nthD ls (xix 0 (xnat ↑i) 5))) 16 then (
 bif xle (xadd (xnat ↑i) 1) n then
 bif xle (xadd (xix 0 (xnat ↑i) 1) 1) (xln rc) then
 bif isI .i64 (nthD rc (xix 0 (xnat ↑i) 1)) then
 bif xnn (asI (nthD rc (xix 0 (xnat ↑i) 1))) then
 bif xle (xadd (xnat (asI (nthD rc (xix 0 (xnat ↑i) 1)))) 1) n then
 bif xle (xadd (xix 0 (xnat (asI (nthD rc (xix 0 (xnat ↑i) 1)))) 1) 1) (xln mc) then
 bif isI .i64 (nthD mc (xix 0 (xnat (asI (nthD rc (xix 0 (xnat ↑i) 1)))) 1)) then
 bif xle (xadd (xnat ↑i) 1) n then
 bif xle (xadd (xix 0 (xnat ↑i) 1) 1) (xln mc) then
 bif xcm .neq (asI (nthD ls (xix 0 (xnat ↑i) 5))) 12 then (
 bif xcm .neq (asI (nthD ls (xix 0 (xnat ↑i) 5))) 13 then (
 K .normal [.ptr 1 0, .any, .any, .any, .any, .any, .sl 3 0 n n, .sl 4 0 n n, .any, .any, .any, .int .i64 (xar .add .i64 (↑i) 1)] (rk_m_b1 n i ls rc mc) [])
 else (
 bif xcm .lss (asI (nthD ls (xadd (xadd (xadd (xix 0 (xnat ↑i) 5) 1) 1) 1))) ↑n then (
 bif xnn (asI (nthD ls (xadd (xadd (xadd (xix 0 (xnat ↑i) 5) 1) 1) 1))) then
 bif xle (xadd (xnat (asI (nthD ls (xadd (xadd (xadd (xix 0 (xnat ↑i) 5) 1) 1) 1)))) 1) n then
 bif xle (xadd (xix 0 (xnat (asI (nthD ls (xadd (xadd (xadd (xix 0 (xnat ↑i) 5) 1) 1) 1)))) 1) 1) (xln rc) then
 bif isI .i64 (nthD rc (xix 0 (xnat (asI (nthD ls (xadd (xadd (xadd (xix 0 (xnat ↑i) 5) 1) 1) 1)))) 1)) then
 bif xle (xadd (xnat ↑i) 1) n then
 bif xle (xadd (xix 0 (xnat ↑i) 1) 1) (xln rc) then
 bif isI .i64 (nthD rc (xix 0 (xnat ↑i) 1)) then
 bif xcm .eql (asI (nthD rc (xix 0 (xnat (asI (nthD ls (xadd (xadd (xadd (xix 0 (xnat ↑i) 5) 1) 1) 1)))) 1))) (asI (nthD rc (xix 0 (xnat ↑i) 1))) then (
 K .normal [.ptr 1 0, .any, .any, .any, .any, .any, .sl 3 0 n n, .sl 4 0 n n, .any, .any, .any, .int .i64 (xar .add .i64 (↑i) 1)] (rk_m_b1 n i ls rc mc) [])
 else (
 bif xcm .eql (asI (nthD ls (xadd (xadd (xadd (xix 0 (xnat ↑i) 5) 1) 1) 1))) ↑n then (
 bif xle (xadd (xnat ↑i) 1) n then
 bif xle (xadd (xix 0 (xnat ↑i) 1) 1) (xln rc) then
 bif isI .i64 (nthD rc (xix 0 (xnat ↑i) 1)) then
 bif xcm .eql (asI (nthD rc (xix 0 (xnat ↑i) 1))) (-1) then (
 K .normal [.ptr 1 0, .any, .any, .any, .any, .any, .sl 3 0 n n, .sl 4 0 n n, .any, .any, .any, .int .i64 (xar .add .i64 (↑i) 1)] (rk_m_b1 n i ls rc mc) [])
 else (
 K .ret [.ptr 1 0, .int .i64 ↑i, .int .i64 2, .nils, .nils, .any, .sl 3 0 n n, .sl 4 0 n n, .any, .any, .any, .int .i64 ↑i] (rk_m_b1 n i ls rc mc) [])
 else False
 else False
 else False)
 else (
 K .ret [.ptr 1 0, .int .i64 ↑i, .int .i64 2, .nils, .nils, .any, .sl 3 0 n n, .sl 4 0 n n, .any, .any, .any, .int .i64 ↑i] (rk_m_b1 n i ls rc mc) []))
 else False
 else False
 else False
 else False
 else False
 else False
 else False)
 else (
 bif xcm .eql (asI (nthD ls (xadd (xadd (xadd (xix 0 (xnat ↑i) 5) 1) 1) 1))) ↑n then (
 bif xle (xadd (xnat ↑i) 1) n then
 bif xle (xadd (xix 0 (xnat ↑i) 1) 1) (xln rc) then
 bif isI .i64 (nthD rc (xix 0 (xnat ↑i) 1)) then
 bif xcm .eql (asI (nthD rc (xix 0 (xnat ↑i) 1))) (-1) then (
 K .normal [.ptr 1 0, .any, .any, .any, .any, .any, .sl 3 0 n n, .sl 4 0 n n, .any, .any, .any, .int .i64 (xar .add .i64 (↑i) 1)] (rk_m_b1 n i ls rc mc) [])
 else (
 K .ret [.ptr 1 0, .int .i64 ↑i, .int .i64 2, .nils, .nils, .any, .sl 3 0 n n, .sl 4 0 n n, .any, .any, .any, .int .i64 ↑i] (rk_m_b1 n i ls rc mc) [])
 else False
 else False
 else False)
 else (
 K .ret [.ptr 1 0, .int .i64 ↑i, .int .i64 2, .nils, .nils, .any, .sl 3 0 n n, .sl 4 0 n n, .any, .any, .any, .int .i64 ↑i] (rk_m_b1 n i ls rc mc) []))))
 else (
 bif xcm .lss (asI (nthD ls (xadd (xadd (xadd (xix 0 (xnat ↑i) 5) 1) 1) 1))) ↑n then (
 bif xnn (asI (nthD ls (xadd (xadd (xadd (xix 0 (xnat ↑i) 5) 1) 1) 1))) then
 bif xle (xadd (xnat (asI (nthD ls (xadd (xadd (xadd (xix 0 (xnat ↑i) 5) 1) 1) 1)))) 1) n then
 bif xle (xadd (xix 0 (xnat (asI (nthD ls (xadd (xadd (xadd (xix 0 (xnat ↑i) 5) 1) 1) 1)))) 1) 1) (xln rc) then
 bif isI .i64 (nthD rc (xix 0 (xnat (asI (nthD ls (xadd (xadd (xadd (xix 0 (xnat ↑i) 5) 1) 1) 1)))) 1)) then
 bif xle (xadd (xnat ↑i) 1) n then
 bif xle (xadd (xix 0 (xnat ↑i) 1) 1) (xln rc) then
 bif isI .i64 (nthD rc (xix 0 (xnat ↑i) 1)) then
 bif xcm .eql (asI (nthD rc (xix 0 (xnat (asI (nthD ls (xadd (xadd (xadd (xix 0 (xnat ↑i) 5) 1) 1) 1)))) 1))) (asI (nthD rc (xix 0 (xnat ↑i) 1))) then (
 K .normal [.ptr 1 0, .any, .any, .any, .any, .any, .sl 3 0 n n, .sl 4 0 n n, .any, .any, .any, .int .i64 (xar .add .i64 (↑i) 1)] (rk_m_b1 n i ls rc mc) [])
 else (
 bif xcm .eql (asI (nthD ls (xadd (xadd (xadd (xix 0 (xnat ↑i) 5) 1) 1) 1))) ↑n then (
 bif xle (xadd (xnat ↑i) 1) n then
 bif xle (xadd (xix 0 (xnat ↑i) 1) 1) (xln rc) then
 bif isI .i64 (nthD rc (xix 0 (xnat ↑i) 1)) then
 bif xcm .eql (asI (nthD rc (xix 0 (xnat ↑i) 1))) (-1) then (
 K .normal [.ptr 1 0, .any, .any, .any, .any, .any, .sl 3 0 n n, .sl 4 0 n n, .any, .any, .any, .int .i64 (xar .add .i64 (↑i) 1)] (rk_m_b1 n i ls rc mc) [])
 else (
 K .ret [.ptr 1 0, .int .i64 ↑i, .int .i64 2, .nils, .nils, .any, .sl 3 0 n n, .sl 4 0 n n, .any, .any, .any, .int .i64 ↑i] (rk_m_b1 n i ls rc mc) [])
 else False
 else False
 else False)
 else (
 K .ret [.ptr 1 0, .int .i64 ↑i, .int .i64 2, .nils, .nils, .any, .sl 3 0 n n, .sl 4 0 n n, .any, .any, .any, .int .i64 ↑i] (rk_m_b1 n i ls rc mc) []))
 else False
 else False
 else False
 else False
 else False
 else False
 else False)
 else (
 bif xcm .eql (asI (nthD ls (xadd (xadd (xadd (xix 0 (xnat ↑i) 5) 1) 1) 1))) ↑n then (
 bif xle (xadd (xnat ↑i) 1) n then
 bif xle (xadd (xix 0 (xnat ↑i) 1) 1) (xln rc) then
 bif isI .i64 (nthD rc (xix 0 (xnat ↑i) 1)) then
 bif xcm .eql (asI (nthD rc (xix 0 (xnat ↑i) 1))) (-1) then (
 K .normal [.ptr 1 0, .any, .any, .any, .any, .any, .sl 3 0 n n, .sl 4 0 n n, .any, .any, .any, .int .i64 (xar .add .i64 (↑i) 1)] (rk_m_b1 n i ls rc mc) [])
 else (
 K .ret [.ptr 1 0, .int .i64 ↑i, .int .i64 2, .nils, .nils, .any, .sl 3 0 n n, .sl 4 0 n n, .any, .any, .any, .int .i64 ↑i] (rk_m_b1 n i ls rc mc) [])
 else False
 else False
 else False)
 else (
 K .ret [.ptr 1 0, .int .i64 ↑i, .int .i64 2, .nils, .nils, .any, .sl 3 0 n n, .sl 4 0 n n, .any, .any, .any, .int .i64 ↑i] (rk_m_b1 n i ls rc mc) [])))
 else False
 else False
 else False
 else False
 else False
 else False
 else False
 else False
 else False)
 else (
 bif xcm .neq (asI (nthD ls (xix 0 (xnat ↑i) 5))) 12 then (
 bif xcm .neq (asI (nthD ls (xix 0 (xnat ↑i) 5))) 13 then (
 K .normal [.ptr 1 0, .any, .any, .any, .any, .any, .sl 3 0 n n, .sl 4 0 n n, .any, .any, .any, .int .i64 (xar .add .i64 (↑i) 1)] (rk_m_b2 n i ls rc mc) [])
 else (
 bif xcm .lss (asI (nthD ls (xadd (xadd (xadd (xix 0 (xnat ↑i) 5) 1) 1) 1))) ↑n then (
 bif xnn (asI (nthD ls (xadd (xadd (xadd (xix 0 (xnat ↑i) 5) 1) 1) 1))) then
 bif xle (xadd (xnat (asI (nthD ls (xadd (xadd (xadd (xix 0 (xnat ↑i) 5) 1) 1) 1)))) 1) n then
 bif xle (xadd (xix 0 (xnat (asI (nthD ls (xadd (xadd (xadd (xix 0 (xnat ↑i) 5) 1) 1) 1)))) 1) 1) (xln rc) then
 bif isI .i64 (nthD rc (xix 0 (xnat (asI (nthD ls (xadd (xadd (xadd (xix 0 (xnat ↑i) 5) 1) 1) 1)))) 1)) then
 bif xle (xadd (xnat ↑i) 1) n then
 bif xle (xadd (xix 0 (xnat ↑i) 1) 1) (xln rc) then
 bif isI .i64 (nthD rc (xix 0 (xnat ↑i) 1)) then
 bif xcm .eql (asI (nthD rc (xix 0 (xnat (asI (nthD ls (xadd (xadd (xadd (xix 0 (xnat ↑i) 5) 1) 1) 1)))) 1))) (asI (nthD rc (xix 0 (xnat ↑i) 1))) then (
 K .normal [.ptr 1 0, .any, .any, .any, .any, .any, .sl 3 0 n n, .sl 4 0 n n, .any, .any, .any, .int .i64 (xar .add .i64 (↑i) 1)] (rk_m_b2 n i ls rc mc) [])
 else (
 bif xcm .eql (asI (nthD ls (xadd (xadd (xadd (xix 0 (xnat ↑i) 5) 1) 1) 1))) ↑n then (
 bif xle (xadd (xnat ↑i) 1) n then
 bif xle (xadd (xix 0 (xnat ↑i) 1) 1) (xln rc) then
 bif isI .i64 (nthD rc (xix 0 (xnat ↑i) 1)) then
 bif xcm .eql (asI (nthD rc (xix 0 (xnat ↑i) 1))) (-1) then (
 K .normal [.ptr 1 0, .any, .any, .any, .any, .any, .sl 3 0 n n, .sl 4 0 n n, .any, .any, .any, .int .i64 (xar .add .i64 (↑i) 1)] (rk_m_b2 n i ls rc mc) [])
 else (
 K .ret [.ptr 1 0, .int .i64 ↑i, .int .i64 2, .nils, .nils, .any, .sl 3 0 n n, .sl 4 0 n n, .any, .any, .any, .int .i64 ↑i] (rk_m_b2 n i ls rc mc) [])
 else False
 else False
 else False)
 else (
 K .ret [.ptr 1 0, .int .i64 ↑i, .int .i64 2, .nils, .nils, .any, .sl 3 0 n n, .sl 4 0 n n, .any, .any, .any, .int .i64 ↑i] (rk_m_b2 n i ls rc mc) []))
 else False
 else False
 else False
 else False
 else False
 else False
 else False)
 else (
 bif xcm .eql (asI (nthD ls (xadd (xadd (xadd (xix 0 (xnat ↑i) 5) 1) 1) 1))) ↑n then (
 bif xle (xadd (xnat ↑i) 1) n then
 bif xle (xadd (xix 0 (xnat ↑i) 1) 1) (xln rc) then
 bif isI .i64 (nthD rc (xix 0 (xnat ↑i) 1)) then
 bif xcm .eql (asI (nthD rc (xix 0 (xnat ↑i) 1))) (-1) then (
 K .normal [.ptr 1 0, .any, .any, .any, .any, .any, .sl 3 0 n n, .sl 4 0 n n, .any, .any, .any, .int .i64 (xar .add .i64 (↑i) 1)] (rk_m_b2 n i ls rc mc) [])
 else (
 K .ret [.ptr 1 0, .int .i64 ↑i, .int .i64 2, .nils, .nils, .any, .sl 3 0 n n, .sl 4 0 n n, .any, .any, .any, .int .i64 ↑i] (rk_m_b2 n i ls rc mc) [])
 else False
 else False
 else False)
 else (
 K .ret [.ptr 1 0, .int .i64 ↑i, .int .i64 2, .nils, .nils, .any, .sl 3 0 n n, .sl 4 0 n n, .any, .any, .any, .int .i64 ↑i] (rk_m_b2 n i ls rc mc) []))))
 else (
 bif xcm .lss (asI (nthD ls (xadd (xadd (xadd (xix 0 (xnat ↑i) 5) 1) 1) 1))) ↑n then (
 bif xnn (asI (nthD ls (xadd (xadd (xadd (xix 0 (xnat ↑i) 5) 1) 1) 1))) then
 bif xle (xadd (xnat (asI (nthD ls (xadd (xadd (xadd (xix 0 (xnat ↑i) 5) 1) 1) 1)))) 1) n then
 bif xle (xadd (xix 0 (xnat (asI (nthD ls (xadd (xadd (xadd (xix 0 (xnat ↑i) 5) 1) 1) 1)))) 1) 1) (xln rc) then
 bif isI .i64 (nthD rc (xix 0 (xnat (asI (nthD ls (xadd (xadd (xadd (xix 0 (xnat ↑i) 5) 1) 1) 1)))) 1)) then
 bif xle (xadd (xnat ↑i) 1) n then
 bif xle (xadd (xix 0 (xnat ↑i) 1) 1) (xln rc) then
 bif isI .i64 (nthD rc (xix 0 (xnat ↑i) 1)) then
 bif xcm .eql (asI (nthD rc (xix 0 (xnat (asI (nthD ls (xadd (xadd (xadd (xix 0 (xnat ↑i) 5) 1) 1) 1)))) 1))) (asI (nthD rc (xix 0 (xnat ↑i) 1))) then (
 K .normal [.ptr 1 0, .any, .any, .any, .any, .any, .sl 3 0 n n, .sl 4 0 n n, .any, .any, .any, .int .i64 (xar .add .i64 (↑i) 1)] (rk_m_b2 n i ls rc mc) [])
 else (
 bif xcm .eql (asI (nthD ls (xadd (xadd (xadd (xix 0 (xnat ↑i) 5) 1) 1) 1))) ↑n then (
 bif xle (xadd (xnat ↑i) 1) n then
 bif xle (xadd (xix 0 (xnat ↑i) 1) 1) (xln rc) then
 bif isI .i64 (nthD rc (xix 0 (xnat ↑i) 1)) then
 bif xcm .eql (asI (nthD rc (xix 0 (xnat ↑i) 1))) (-1) then (
 K .normal [.ptr 1 0, .any, .any, .any, .any, .any, .sl 3 0 n n, .sl 4 0 n n, .any, .any, .any, .int .i64 (xar .add .i64 (↑i) 1)] (rk_m_b2 n i ls rc mc) [])
 else (
 K .ret [.ptr 1 0, .int .i64 ↑i, .int .i64 2, .nils, .nils, .any, .sl 3 0 n n, .sl 4 0 n n, .any, .any, .any, .int .i64 ↑i] (rk_m_b2 n i ls rc mc) [])
 else False
 else False
 else False)
 else (
 K .ret [.ptr 1 0, .int .i64 ↑i, .int .i64 2, .nils, .nils, .any, .sl 3 0 n n, .sl 4 0 n n, .any, .any, .any, .int .i64 ↑i] (rk_m_b2 n i ls rc mc) []))
 else False
 else False
 else False
 else False
 else False
 else False
 else False)
 else (
 bif xcm .eql (asI (nthD ls (xadd (xadd (xadd (xix 0 (xnat ↑i) 5) 1) 1) 1))) ↑n then (
 bif xle (xadd (xnat ↑i) 1) n then
 bif xle (xadd (xix 0 (xnat ↑i) 1) 1) (xln rc) then
 bif isI .i64 (nthD rc (xix 0 (xnat ↑i) 1)) then
 bif xcm .eql (asI (nthD rc (xix 0 (xnat ↑i) 1))) (-1) then (
 K .normal [.ptr 1 0, .any, .any, .any, .any, .any, .sl 3 0 n n, .sl 4 0 n n, .any, .any, .any, .int .i64 (xar .add .i64 (↑i) 1)] (rk_m_b2 n i ls rc mc) [])
 else (
 K .ret [.ptr 1 0, .int .i64 ↑i, .int .i64 2, .nils, .nils, .any, .sl 3 0 n n, .sl 4 0 n n, .any, .any, .any, .int .i64 ↑i] (rk_m_b2 n i ls rc mc) [])
 else False
 else False
 else False)
 else (
 K .ret [.ptr 1 0, .int .i64 ↑i, .int .i64 2, .nils, .nils, .any, .sl 3 0 n n, .sl 4 0 n n, .any, .any, .any, .int .i64 ↑i] (rk_m_b2 n i ls rc mc) []))))
 else False
 else False
 else False
 else False
 else False
 else False
 else False)
 else (
 K (.exit 3) [.ptr 1 0, .any, .any, .any, .any, .any, .sl 3 0 n n, .sl 4 0 n n, .any, .any, .any, .int .i64 ↑i] [some (.ro ls), some (.cells [.slo 0 0 n 0] none), some .dead, some (.cells rc none), some (.cells mc none)] [])) := by kernel_rfl
theorem rk_z (n : Nat) (ls rc mc : List LV) (K : Pk) : (xsp Go.Proofs.Tryd.prog ckR 60 227 ((sp Go.Proofs.Tryd.prog 16).drop 11) (mkTm 227 [(7, .sl 3 0 n n), (8, .sl 4 0 n n)]) (mkS (rkV n ls rc mc)) (vK rkL2 K)) = (
 K .ret [.any, .int .i64 0, .int .i64 0, .sl 3 0 n n, .sl 4 0 n n, .any, .sl 3 0 n n, .sl 4 0 n n, .any, .any, .any, .any] [some (.ro ls), some (.cells [.slo 0 0 n 0] none), some .dead, some (.cells rc none), some (.cells mc none)] []) := by kernel_rfl
end
end Go.Lev
