/- ReadsPlays: trees -/
import Derived.Test.YtabhnhodhbpmmaaCR3
import Derived.Test.YtabhnhodhbpmmaaLc
import Derived.Test.YtabhnhodhbpmmaaChecked
import Derived.KernelRfl

namespace Go.Lev
open Go.RowKit
set_option linter.unusedVariables false
set_option linter.unusedSimpArgs false
set_option maxRecDepth 100000
noncomputable section
def cxp : Cx := cxl [(3, runG), (7, newG), (13, onewG), (20, withinG), (8, addG), (15, oaddG), (19, cloneG 2), (16, sameCSeenG), (12, stdG), (17, ostdG), (9, getG)]
abbrev rpL : List Nat := [1, 3, 8, 9, 10, 11, 12, 13, 14, 15, 16, 17, 18, 19, 114]
abbrev rpT (n0 n2 m i : Nat) : List (Nat × LV) := [(1, .slo 0 0 n0 0), (3, .slo 2 0 n2 0), (9, .ptr 3 0), (10, .ptr 5 0), (11, .slo 7 0 m 0), (12, .int .i64 i)]
abbrev rpU (n0 m i : Nat) : List (Nat × LV) := [(1, .slo 0 0 n0 0), (9, .ptr 3 0), (10, .ptr 5 0), (11, .slo 7 0 m 0), (13, .int .i64 i)]
abbrev rpV (n0 m i : Nat) : List (Nat × LV) := [(1, .slo 0 0 n0 0), (9, .ptr 3 0), (10, .ptr 5 0), (11, .slo 7 0 m 0), (13, .int .i64 i), (14, .ptr 8 0)]
abbrev rpX (n0 m i : Nat) : List (Nat × LV) := [(1, .slo 0 0 n0 0), (9, .ptr 3 0), (10, .ptr 5 0), (11, .slo 7 0 m 0), (13, .int .i64 i), (14, .ptr 8 0), (114, .bool false)]
abbrev rpY (n0 m i : Nat) (v : Int) (ok : Bool) (w : Int) (is : Bool) (j : Nat) : List (Nat × LV) := [(1, .slo 0 0 n0 0), (9, .ptr 3 0), (10, .ptr 5 0), (11, .slo 7 0 m 0), (13, .int .i64 i), (14, .ptr 8 0), (15, .int .u64 v), (16, .bool ok), (17, .int .u64 w), (18, .bool is), (19, .int .i64 j)]
abbrev rpK (lx kx vx : List LV) (most : Int) (n : Nat) (qc kc : List LV) : List LB := [.ro lx, .ro kx, .ro vx, .cells [.int .i64 most, .slo 4 0 n 0] none, .cells qc (some 2), .cells [.int .i64 most, .slo 6 0 n 0] none, .cells qc (some 2), .cells kc (some 3)]
abbrev rpJ (lx kx vx : List LV) (most : Int) (n : Nat) (qc kc : List LV) (s v : Int) : List LB := rpK lx kx vx most n qc kc ++ [.cells [.int .i64 s, .int .u64 v] none]
abbrev rpB : List Code := spineL (blockIn (nthC (spineL (loopOf (nthC (sp Go.Proofs.Try.prog 4) 12))) 2))
theorem rp_a (most : Int) (n0 n1 n2 : Nat) (lx kx vx : List LV) (K : Pk) : (xsp Go.Proofs.Try.prog cxp 60 158 (seg (sp Go.Proofs.Try.prog 4) 0 10) (tm0 [.int .i64 most, .slo 0 0 n0 0, .slo 1 0 n1 0, .slo 2 0 n2 0]) (mkS [.ro lx, .ro kx, .ro vx]) (vK rpL K)) = (
 bif xle (xadd 0 (xmul n1 3)) (xln kx) then bif xz n1 then (
 K .normal [.slo 0 0 n0 0, .slo 2 0 n2 0, .bool false, .ptr 3 0, .ptr 5 0, .nils, .int .i64 0, .tup [], .tup [], .tup [], .tup [], .tup [], .tup [], .tup [], .tup []] [some (.ro lx), some (.ro kx), some (.ro vx), some (.cells [.int .i64 (xmn (xmx most 1) 16), .slo 4 0 0 0] none), some (.cells [] (some 2)), some (.cells [.int .i64 (xmn (xmx most 1) 16), .slo 6 0 0 0] none), some (.cells [] (some 2))] [])
 else (
 bif xle (xmul n1 24) 140737488355328 then bif xle n1 140737488355328 then bif xcm .gtr (↑n1) 40 then (
 K .ret [.slo 0 0 n0 0, .slo 2 0 n2 0, .bool true, .ptr 3 0, .ptr 5 0, .slo 7 0 n1 0, .tup [], .tup [], .tup [], .tup [], .tup [], .tup [], .tup [], .tup [], .tup []] [some (.ro lx), some (.ro kx), some (.ro vx), some (.cells [.int .i64 (xmn (xmx most 1) 16), .slo 4 0 0 0] none), some (.cells [] (some 2)), some (.cells [.int .i64 (xmn (xmx most 1) 16), .slo 6 0 0 0] none), some (.cells [] (some 2)), some (.cells (xcut kx 0 (xmul n1 3)) (some 3))] [])
 else (
 K .normal [.slo 0 0 n0 0, .slo 2 0 n2 0, .bool false, .ptr 3 0, .ptr 5 0, .slo 7 0 n1 0, .int .i64 0, .tup [], .tup [], .tup [], .tup [], .tup [], .tup [], .tup [], .tup []] [some (.ro lx), some (.ro kx), some (.ro vx), some (.cells [.int .i64 (xmn (xmx most 1) 16), .slo 4 0 0 0] none), some (.cells [] (some 2)), some (.cells [.int .i64 (xmn (xmx most 1) 16), .slo 6 0 0 0] none), some (.cells [] (some 2)), some (.cells (xcut kx 0 (xmul n1 3)) (some 3))] []) else False else False) else False) := by kernel_rfl
abbrev rp_b_b1 (most : Int) (n : Nat) (lx : List LV) (kx : List LV) (vx : List LV) (qc : List LV) (kc : List LV) : List (Option LB) := [some (.ro lx), some (.ro kx), some (.ro vx), some (.cells [.int .i64 most, .slo 4 0 n 0] none), some (.cells qc (some 2)), some (.cells [.int .i64 most, .slo 6 0 n 0] none), some (.cells qc (some 2)), some (.cells kc (some 3))]
theorem rp_b (most : Int) (n0 n2 m i n : Nat) (lx kx vx qc kc : List LV) (K : Pk) : (xcode Go.Proofs.Try.prog cxp 60 158 (loopOf (nthC (sp Go.Proofs.Try.prog 4) 10)) (mkTm 158 (rpT n0 n2 m i)) (mkS (rpK lx kx vx most n qc kc)) (vK rpL K)) = (
 bif xcm .lss ↑i ↑n2 then (
 bif xcm .lss (↑i) 16 then (
 bif xcm .geq ↑i ↑m then (
 bif xle (xadd m 1) 1000000 then bif xle (xadd 0 (xmul m 3)) (xln kc) then bif xle (xadd (xnat ↑i) 1) n2 then bif xle (xadd (xix 0 (xnat ↑i) 1) 1) (xln vx) then bif isI .u64 (nthD vx (xix 0 (xnat ↑i) 1)) then bif xle (xadd (xnat ↑i) 1) (xadd m 1) then bif xle (xadd (xix 0 (xnat ↑i) 3) 3) (xln (xcat (xcut kc 0 (xmul m 3)) [.int .u64 0, .bool false, .int .i64 0])) then
 K .normal [.slo 0 0 n0 0, .slo 2 0 n2 0, .any, .ptr 3 0, .ptr 5 0, .slo 9 0 (xadd m 1) 0, .int .i64 (xar .add .i64 (↑i) 1), .any, .any, .any, .any, .any, .any, .any, .any] [some (.ro lx), some (.ro kx), some (.ro vx), some (.cells [.int .i64 most, .slo 4 0 n 0] none), some (.cells qc (some 2)), some (.cells [.int .i64 most, .slo 6 0 n 0] none), some (.cells qc (some 2)), some .dead, some (.cells [.int .u64 0, .bool false, .int .i64 0] none), some (.cells (xlay (xcat (xcut kc 0 (xmul m 3)) [.int .u64 0, .bool false, .int .i64 0]) (xix 0 (xnat ↑i) 3) [.int .u64 (xar .rem .u64 (asI (nthD vx (xix 0 (xnat ↑i) 1))) 3), .bool false, .int .i64 0]) (some 3))] [] else False else False else False else False else False else False else False)
 else (
 bif xle (xadd (xnat ↑i) 1) n2 then bif xle (xadd (xix 0 (xnat ↑i) 1) 1) (xln vx) then bif isI .u64 (nthD vx (xix 0 (xnat ↑i) 1)) then bif xle (xadd (xnat ↑i) 1) m then bif xle (xadd (xix 0 (xnat ↑i) 3) 3) (xln kc) then
 K .normal [.slo 0 0 n0 0, .slo 2 0 n2 0, .any, .ptr 3 0, .ptr 5 0, .slo 7 0 m 0, .int .i64 (xar .add .i64 (↑i) 1), .any, .any, .any, .any, .any, .any, .any, .any] [some (.ro lx), some (.ro kx), some (.ro vx), some (.cells [.int .i64 most, .slo 4 0 n 0] none), some (.cells qc (some 2)), some (.cells [.int .i64 most, .slo 6 0 n 0] none), some (.cells qc (some 2)), some (.cells (xlay kc (xix 0 (xnat ↑i) 3) [.int .u64 (xar .rem .u64 (asI (nthD vx (xix 0 (xnat ↑i) 1))) 3), .bool false, .int .i64 0]) (some 3))] [] else False else False else False else False else False))
 else (
 K (.exit 0) [.slo 0 0 n0 0, .slo 2 0 n2 0, .any, .ptr 3 0, .ptr 5 0, .slo 7 0 m 0, .int .i64 ↑i, .any, .any, .any, .any, .any, .any, .any, .any] (rp_b_b1 most n lx kx vx qc kc) []))
 else (
 K (.exit 0) [.slo 0 0 n0 0, .slo 2 0 n2 0, .any, .ptr 3 0, .ptr 5 0, .slo 7 0 m 0, .int .i64 ↑i, .any, .any, .any, .any, .any, .any, .any, .any] (rp_b_b1 most n lx kx vx qc kc) [])) := by kernel_rfl
theorem rp_c (most : Int) (n0 n2 m i n : Nat) (lx kx vx qc kc : List LV) (K : Pk) : (xsp Go.Proofs.Try.prog cxp 60 158 (seg (sp Go.Proofs.Try.prog 4) 11 1) (mkTm 158 (rpT n0 n2 m i)) (mkS (rpK lx kx vx most n qc kc)) (vK rpL K)) = (
 K .normal [.slo 0 0 n0 0, .slo 2 0 n2 0, .any, .ptr 3 0, .ptr 5 0, .slo 7 0 m 0, .int .i64 ↑i, .int .i64 0, .any, .any, .any, .any, .any, .any, .any] [some (.ro lx), some (.ro kx), some (.ro vx), some (.cells [.int .i64 most, .slo 4 0 n 0] none), some (.cells qc (some 2)), some (.cells [.int .i64 most, .slo 6 0 n 0] none), some (.cells qc (some 2)), some (.cells kc (some 3))] []) := by kernel_rfl
abbrev rp_d_b1 (most : Int) (n : Nat) (lx : List LV) (kx : List LV) (vx : List LV) (qc : List LV) (kc : List LV) : List (Option LB) := [some (.ro lx), some (.ro kx), some (.ro vx), some (.cells [.int .i64 most, .slo 4 0 n 0] none), some (.cells qc (some 2)), some (.cells [.int .i64 most, .slo 6 0 n 0] none), some (.cells qc (some 2)), some (.cells kc (some 3))]
theorem rp_d (most : Int) (n0 m i n : Nat) (lx kx vx qc kc : List LV) (K : Pk) : (xsp Go.Proofs.Try.prog cxp 60 158 (seg (spineL (loopOf (nthC (sp Go.Proofs.Try.prog 4) 12))) 0 2) (mkTm 158 (rpU n0 m i)) (mkS (rpK lx kx vx most n qc kc)) (vK rpL K)) = (
 bif xcm .lss ↑i ↑n0 then (
 bif xcm .lss (↑i) 60 then (
 K .normal [.slo 0 0 n0 0, .any, .any, .ptr 3 0, .ptr 5 0, .slo 7 0 m 0, .any, .int .i64 ↑i, .any, .any, .any, .any, .any, .any, .any] (rp_d_b1 most n lx kx vx qc kc) [])
 else (
 K (.exit 2) [.slo 0 0 n0 0, .any, .any, .ptr 3 0, .ptr 5 0, .slo 7 0 m 0, .any, .int .i64 ↑i, .any, .any, .any, .any, .any, .any, .any] (rp_d_b1 most n lx kx vx qc kc) []))
 else (
 K (.exit 2) [.slo 0 0 n0 0, .any, .any, .ptr 3 0, .ptr 5 0, .slo 7 0 m 0, .any, .int .i64 ↑i, .any, .any, .any, .any, .any, .any, .any] (rp_d_b1 most n lx kx vx qc kc) [])) := by kernel_rfl
theorem rp_e (most : Int) (n0 m i n : Nat) (lx kx vx qc kc : List LV) (K : Pk) : (xsp Go.Proofs.Try.prog cxp 60 158 (seg rpB 0 1) (mkTm 158 (rpU n0 m i)) (mkS (rpK lx kx vx most n qc kc)) (vK rpL K)) = (
 bif xle (xadd (xnat ↑i) 1) n0 then bif xle (xadd (xix 0 (xnat ↑i) 2) 2) (xln lx) then bif isI .i64 (nthD lx (xix 0 (xnat ↑i) 2)) then bif isI .u64 (nthD lx (xadd (xix 0 (xnat ↑i) 2) 1)) then bif xcm .eql (xar .rem .i64 (↑i) 7) 6 then (
 K .normal [.slo 0 0 n0 0, .any, .any, .ptr 3 0, .ptr 5 0, .slo 7 0 m 0, .any, .int .i64 ↑i, .ptr 10 0, .any, .any, .any, .any, .any, .any] [some (.ro lx), some (.ro kx), some (.ro vx), some (.cells [.int .i64 most, .slo 4 0 n 0] none), some (.cells qc (some 2)), some (.cells [.int .i64 most, .slo 6 0 n 0] none), some (.cells qc (some 2)), some (.cells kc (some 3)), some (.cells [.int .i64 (asI (nthD lx (xix 0 (xnat ↑i) 2))), .int .u64 (asI (nthD lx (xadd (xix 0 (xnat ↑i) 2) 1)))] none), some (.cells [.int .i64 (asI (nthD lx (xix 0 (xnat ↑i) 2))), .int .u64 (asI (nthD lx (xadd (xix 0 (xnat ↑i) 2) 1)))] none), some (.cells [.int .i64 (asI (nthD lx (xix 0 (xnat ↑i) 2))), .int .u64 (asI (nthD lx (xadd (xix 0 (xnat ↑i) 2) 1)))] none)] [])
 else (
 bif xcm .eql (asI (nthD lx (xadd (xix 0 (xnat ↑i) 2) 1))) (asI (nthD lx (xadd (xix 0 (xnat ↑i) 2) 1))) then bif xcm .eql (asI (nthD lx (xadd (xix 0 (xnat ↑i) 2) 1))) (asI (nthD lx (xadd (xix 0 (xnat ↑i) 2) 1))) then
 K .normal [.slo 0 0 n0 0, .any, .any, .ptr 3 0, .ptr 5 0, .slo 7 0 m 0, .any, .int .i64 ↑i, .ptr 10 0, .any, .any, .any, .any, .any, .any] [some (.ro lx), some (.ro kx), some (.ro vx), some (.cells [.int .i64 most, .slo 4 0 n 0] none), some (.cells qc (some 2)), some (.cells [.int .i64 most, .slo 6 0 n 0] none), some (.cells qc (some 2)), some (.cells kc (some 3)), some (.cells [.int .i64 (asI (nthD lx (xix 0 (xnat ↑i) 2))), .int .u64 (asI (nthD lx (xadd (xix 0 (xnat ↑i) 2) 1)))] none), some (.cells [.int .i64 (wthV (asI (nthD lx (xix 0 (xnat ↑i) 2))) 0 15), .int .u64 (xar .rem .u64 (asI (nthD lx (xadd (xix 0 (xnat ↑i) 2) 1))) 3)] none), some (.cells [.int .i64 (wthV (asI (nthD lx (xix 0 (xnat ↑i) 2))) 0 15), .int .u64 (xar .rem .u64 (asI (nthD lx (xadd (xix 0 (xnat ↑i) 2) 1))) 3)] none)] [] else False else False) else False else False else False else False) := by kernel_rfl
abbrev rp_o_b1 (most : Int) (lx : List LV) (kx : List LV) (vx : List LV) (qc : List LV) (kc : List LV) (s : Int) (v : Int) : List (Option LB) := [some (.ro lx), some (.ro kx), some (.ro vx), some (.cells [.int .i64 most, .slo 9 0 (addN most qc s v) 0] none), some .dead, some (.cells [.int .i64 most, .slo 10 0 (addN most qc s v) 0] none), some .dead, some (.cells kc (some 3)), some (.cells [.int .i64 s, .int .u64 v] none), some (.cells (addC most qc s v) (some 2)), some (.cells (addC most qc s v) (some 2)), some (.cells (addC most qc s v) (some 2))]
theorem rp_o (most : Int) (n0 m i n : Nat) (lx kx vx qc kc : List LV) (s v : Int) (K : Pk) : (xorders Go.Proofs.Try.prog cxp 60 158 (nthC rpB 1) (mkTm 158 (rpV n0 m i)) (mkS (rpJ lx kx vx most n qc kc s v)) (vK rpL K)) = (
 bif okC qc n then bif xle (xadd n 1) 1000000 then bif okC qc n then bif xle (xadd n 1) 1000000 then bif xcm .neq (addE most qc s v) (addE most qc s v) then (
 bif xcm .eql s s then bif xcm .eql v v then bif xcm .eql s s then bif xcm .eql v v then
 K .normal [.slo 0 0 n0 0, .any, .any, .ptr 3 0, .ptr 5 0, .slo 7 0 m 0, .any, .int .i64 ↑i, .ptr 8 0, .any, .any, .any, .any, .any, .bool true] [some (.ro lx), some (.ro kx), some (.ro vx), some (.cells [.int .i64 most, .slo 9 0 (addN most qc s v) 0] none), some .dead, some (.cells [.int .i64 most, .slo 10 0 (addN most qc s v) 0] none), some .dead, some (.cells kc (some 3)), some (.cells [.int .i64 s, .int .u64 v] none), some (.cells (addC most qc s v) (some 2)), some (.cells (addC most qc s v) (some 2))] [] else False else False else False else False)
 else (
 bif xle (addN most qc s v) 1000000 then bif xeq (xln (addC most qc s v)) (xmul (addN most qc s v) 2) then bif xnoid (addC most qc s v) then bif okC (addC most qc s v) (addN most qc s v) then bif okC (addC most qc s v) (addN most qc s v) then bif xnot (sameCSeen (addN most qc s v) (addN most qc s v) (addC most qc s v) (addC most qc s v)) then (
 bif xcm .eql s s then bif xcm .eql v v then bif xcm .eql s s then bif xcm .eql v v then bif xeq (addN most qc s v) (addN most qc s v) then bif xeq (addN most qc s v) (addN most qc s v) then
 K .normal [.slo 0 0 n0 0, .any, .any, .ptr 3 0, .ptr 5 0, .slo 7 0 m 0, .any, .int .i64 ↑i, .ptr 8 0, .any, .any, .any, .any, .any, .bool true] (rp_o_b1 most lx kx vx qc kc s v) [] else False else False else False else False else False else False)
 else (
 bif xcm .neq ↑(addN most qc s v) ↑(addN most qc s v) then (
 bif xcm .eql s s then bif xcm .eql v v then bif xcm .eql s s then bif xcm .eql v v then bif xeq (addN most qc s v) (addN most qc s v) then bif xeq (addN most qc s v) (addN most qc s v) then bif xeq (addN most qc s v) (addN most qc s v) then bif xeq (addN most qc s v) (addN most qc s v) then
 K .normal [.slo 0 0 n0 0, .any, .any, .ptr 3 0, .ptr 5 0, .slo 7 0 m 0, .any, .int .i64 ↑i, .ptr 8 0, .any, .any, .any, .any, .any, .bool true] (rp_o_b1 most lx kx vx qc kc s v) [] else False else False else False else False else False else False else False else False)
 else (
 bif okQ (addC most qc s v) (addN most qc s v) then bif okL kc m then bif okQ (addC most qc s v) (addN most qc s v) then bif okL kc m then bif xcm .eql s s then bif xcm .eql v v then bif xcm .eql s s then bif xcm .eql v v then bif xeq (addN most qc s v) (addN most qc s v) then bif xeq (addN most qc s v) (addN most qc s v) then bif xeq (addN most qc s v) (addN most qc s v) then bif xeq (addN most qc s v) (addN most qc s v) then bif xeq (addN most qc s v) (addN most qc s v) then bif xeq (addN most qc s v) (addN most qc s v) then
 K .normal [.slo 0 0 n0 0, .any, .any, .ptr 3 0, .ptr 5 0, .slo 7 0 m 0, .any, .int .i64 ↑i, .ptr 8 0, .any, .any, .any, .any, .any, .bool (xnot (xbq (stdW (addC most qc s v) kc) (stdW (addC most qc s v) kc)))] (rp_o_b1 most lx kx vx qc kc s v) [] else False else False else False else False else False else False else False else False else False else False else False else False else False else False)) else False else False else False else False else False) else False else False else False else False) := by kernel_rfl
theorem rp_f (most : Int) (n0 m i n : Nat) (lx kx vx qc kc : List LV) (s v : Int) (K : Pk) : (xsp Go.Proofs.Try.prog cxp 60 158 (seg rpB 2 4) (mkTm 158 (rpX n0 m i)) (mkS (rpJ lx kx vx most n qc kc s v)) (vK rpL K)) = (
 bif okC qc n then bif xle n 1000000 then
 K .normal [.slo 0 0 n0 0, .any, .any, .ptr 3 0, .ptr 5 0, .slo 7 0 m 0, .any, .int .i64 ↑i, .ptr 8 0, .int .u64 (getV qc s), .bool (getB qc s), .int .u64 0, .bool false, .int .i64 0, .bool false] [some (.ro lx), some (.ro kx), some (.ro vx), some (.cells [.int .i64 most, .slo 4 0 n 0] none), some (.cells qc (some 2)), some (.cells [.int .i64 most, .slo 6 0 n 0] none), some (.cells qc (some 2)), some (.cells kc (some 3)), some (.cells [.int .i64 s, .int .u64 v] none)] [] else False else False) := by kernel_rfl
abbrev rp_g_b1 (most : Int) (n : Nat) (lx : List LV) (kx : List LV) (vx : List LV) (qc : List LV) (kc : List LV) (s : Int) (v : Int) : List (Option LB) := [some (.ro lx), some (.ro kx), some (.ro vx), some (.cells [.int .i64 most, .slo 4 0 n 0] none), some (.cells qc (some 2)), some (.cells [.int .i64 most, .slo 6 0 n 0] none), some (.cells qc (some 2)), some (.cells kc (some 3)), some (.cells [.int .i64 s, .int .u64 v] none)]
theorem rp_g (most : Int) (n0 m i n : Nat) (gv : Int) (ok : Bool) (w : Int) (is : Bool) (j : Nat) (lx kx vx qc kc : List LV) (s v : Int) (K : Pk) : (xcode Go.Proofs.Try.prog cxp 60 158 (loopOf (nthC rpB 6)) (mkTm 158 (rpY n0 m i gv ok w is j)) (mkS (rpJ lx kx vx most n qc kc s v)) (vK rpL K)) = (
 bif xcm .lss ↑j ↑n then (
 bif xle (xadd (xnat ↑j) 1) n then bif xle (xadd (xix 0 (xnat ↑j) 2) 1) (xln qc) then bif isI .i64 (nthD qc (xix 0 (xnat ↑j) 2)) then bif xcm .eql (asI (nthD qc (xix 0 (xnat ↑j) 2))) s then (
 bif xle (xadd (xnat ↑j) 1) n then bif xle (xadd (xadd (xix 0 (xnat ↑j) 2) 1) 1) (xln qc) then bif isI .u64 (nthD qc (xadd (xix 0 (xnat ↑j) 2) 1)) then
 K .normal [.slo 0 0 n0 0, .any, .any, .ptr 3 0, .ptr 5 0, .slo 7 0 m 0, .any, .int .i64 ↑i, .ptr 8 0, .int .u64 gv, .bool ok, .int .u64 (asI (nthD qc (xadd (xix 0 (xnat ↑j) 2) 1))), .bool true, .int .i64 (xar .add .i64 (↑j) 1), .any] (rp_g_b1 most n lx kx vx qc kc s v) [] else False else False else False)
 else (
 K .normal [.slo 0 0 n0 0, .any, .any, .ptr 3 0, .ptr 5 0, .slo 7 0 m 0, .any, .int .i64 ↑i, .ptr 8 0, .int .u64 gv, .bool ok, .int .u64 w, .bool is, .int .i64 (xar .add .i64 (↑j) 1), .any] (rp_g_b1 most n lx kx vx qc kc s v) []) else False else False else False)
 else (
 K (.exit 4) [.slo 0 0 n0 0, .any, .any, .ptr 3 0, .ptr 5 0, .slo 7 0 m 0, .any, .int .i64 ↑i, .ptr 8 0, .int .u64 gv, .bool ok, .int .u64 w, .bool is, .int .i64 ↑j, .any] (rp_g_b1 most n lx kx vx qc kc s v) [])) := by kernel_rfl
abbrev rp_h_b1 (most : Int) (n : Nat) (lx : List LV) (kx : List LV) (vx : List LV) (qc : List LV) (kc : List LV) (s : Int) (v : Int) : List (Option LB) := [some (.ro lx), some (.ro kx), some (.ro vx), some (.cells [.int .i64 most, .slo 4 0 n 0] none), some (.cells qc (some 2)), some (.cells [.int .i64 most, .slo 6 0 n 0] none), some (.cells qc (some 2)), some (.cells kc (some 3)), some (.cells [.int .i64 s, .int .u64 v] none)]
theorem rp_h (most : Int) (n0 m i n : Nat) (gv : Int) (ok : Bool) (w : Int) (is : Bool) (j : Nat) (lx kx vx qc kc : List LV) (s v : Int) (K : Pk) : (xsp Go.Proofs.Try.prog cxp 60 158 (rpB.drop 7) (mkTm 158 (rpY n0 m i gv ok w is j)) (mkS (rpJ lx kx vx most n qc kc s v)) (vK rpL K)) = (
 bif xcm .neq gv w then (
 K .ret [.slo 0 0 n0 0, .any, .bool false, .ptr 3 0, .ptr 5 0, .slo 7 0 m 0, .any, .int .i64 ↑i, .ptr 8 0, .int .u64 gv, .bool ok, .int .u64 w, .bool is, .int .i64 ↑j, .any] (rp_h_b1 most n lx kx vx qc kc s v) [])
 else (
 bif xnot (xbq ok is) then (
 K .ret [.slo 0 0 n0 0, .any, .bool false, .ptr 3 0, .ptr 5 0, .slo 7 0 m 0, .any, .int .i64 ↑i, .ptr 8 0, .int .u64 gv, .bool ok, .int .u64 w, .bool is, .int .i64 ↑j, .any] (rp_h_b1 most n lx kx vx qc kc s v) [])
 else (
 K .normal [.slo 0 0 n0 0, .any, .any, .ptr 3 0, .ptr 5 0, .slo 7 0 m 0, .any, .int .i64 ↑i, .ptr 8 0, .int .u64 gv, .bool ok, .int .u64 w, .bool is, .int .i64 ↑j, .any] (rp_h_b1 most n lx kx vx qc kc s v) []))) := by kernel_rfl
theorem rp_i (most : Int) (n0 m i n : Nat) (lx kx vx qc kc : List LV) (K : Pk) : (xsp Go.Proofs.Try.prog cxp 60 158 ((spineL (loopOf (nthC (sp Go.Proofs.Try.prog 4) 12))).drop 3) (mkTm 158 (rpU n0 m i)) (mkS (rpK lx kx vx most n qc kc)) (vK rpL K)) = (
 K .normal [.slo 0 0 n0 0, .any, .any, .ptr 3 0, .ptr 5 0, .slo 7 0 m 0, .any, .int .i64 (xar .add .i64 (↑i) 1), .any, .any, .any, .any, .any, .any, .any] [some (.ro lx), some (.ro kx), some (.ro vx), some (.cells [.int .i64 most, .slo 4 0 n 0] none), some (.cells qc (some 2)), some (.cells [.int .i64 most, .slo 6 0 n 0] none), some (.cells qc (some 2)), some (.cells kc (some 3))] []) := by kernel_rfl
theorem rp_z (lx kx vx : List LV) (K : Pk) : (xsp Go.Proofs.Try.prog cxp 60 158 ((sp Go.Proofs.Try.prog 4).drop 13) (mkTm 158 []) (mkS [.ro lx, .ro kx, .ro vx]) (vK rpL K)) = (
 K .ret [.any, .any, .bool true, .any, .any, .any, .any, .any, .any, .any, .any, .any, .any, .any, .any] [some (.ro lx), some (.ro kx), some (.ro vx)] []) := by kernel_rfl
end
end Go.Lev
