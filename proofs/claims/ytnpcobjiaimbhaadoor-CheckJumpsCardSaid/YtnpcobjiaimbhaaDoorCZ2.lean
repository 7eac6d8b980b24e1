/- the draws of programs: a program, trees -/
import Derived.Test.YtnpcobjiaimbhaaDoorCZ1
import Derived.Test.YtnpcobjiaimbhaaDoorLc
import Derived.Test.YtnpcobjiaimbhaaDoorChecked
import Derived.KernelRfl

import Derived.Test.YtnpcobjiaimbhaaDoorLc
namespace Go.Lev
open Go.RowKit
set_option linter.unusedVariables false
set_option linter.unusedSimpArgs false
set_option maxRecDepth 100000
noncomputable section
def cxP : Cx := cxl [(14, withinG), (18, regG), (19, simG)]
abbrev pgF : List Code := sp Go.Proofs.Tryd.prog 13
abbrev pgR : List Code := spineL (loopOf (nthC pgF 4))
abbrev pgB : List Code := spineL (blockIn (nthC pgR 2))
abbrev pgC0 : Code := blockIn (nthC pgB 5)
abbrev pgC1 : Code := condF (nthC (spineL pgC0) 1)
abbrev pgC2 : Code := condF (nthC (spineL pgC1) 1)
abbrev pgC3 : Code := condF (nthC (spineL pgC2) 1)
abbrev pgC4 : Code := condF (nthC (spineL pgC3) 1)
abbrev pgC5 : Code := condF (nthC (spineL pgC4) 1)
abbrev pgC6 : Code := condF (nthC (spineL pgC5) 1)
abbrev pgC7 : Code := condF (nthC (spineL pgC6) 1)
abbrev pgC8 : Code := condF (nthC (spineL pgC7) 1)
abbrev pgC9 : Code := condF (nthC (spineL pgC8) 1)
abbrev pgL : List Nat := [0, 1, 2, 6, 7, 8, 9, 10, 11, 12, 41, 55, 73, 90, 109, 135, 153, 171, 190]
abbrev pgT (np : Nat) (m : Int) (calm : Bool) (nl k i : Nat) : List (Nat × LV) := [(0, .slo 0 0 np 0), (1, .int .i64 m), (2, .bool calm), (6, .ptr 1 0), (7, .slo 2 0 nl 0), (8, .slo 3 0 k 0), (9, .int .i64 i)]
abbrev pgU (nl k : Nat) : List (Nat × LV) := [(6, .ptr 1 0), (7, .slo 2 0 nl 0), (8, .slo 3 0 k 0)]
abbrev pgV (nl : Nat) : List (Nat × LV) := [(6, .ptr 1 0), (7, .slo 2 0 nl 0)]
abbrev pgA (np : Nat) (m : Int) (calm : Bool) (nl k i : Nat) (w : Int) : List (Nat × LV) := [(0, .slo 0 0 np 0), (1, .int .i64 m), (2, .bool calm), (6, .ptr 1 0), (7, .slo 2 0 nl 0), (8, .slo 3 0 k 0), (9, .int .i64 i), (10, .ptr 4 0), (11, .int .i64 k), (12, .int .i64 w)]
abbrev pgH (ks ls os : List LV) : List LB := [.ro ks, .cells [.nils] none, .cells ls (some 5), .cells os (some 1)]
abbrev pgJ (ks ls os : List LV) (xw xa xb xc xn : Int) : List LB := [.ro ks, .cells [.nils] none, .cells ls (some 5), .cells os (some 1), .cells [.int .i64 xw, .int .i64 xa, .int .i64 xb, .int .i64 xc, .int .u64 xn] none]
theorem cxP_ok : CtrOk Go.Proofs.Tryd.prog (ctrOf cxP) := cxl_ok ⟨withinG_ok, regG_ok, simG_ok, trivial⟩
theorem pg_a (np : Nat) (m : Int) (calm : Bool) (ks : List LV) (K : Pk) : (xsp Go.Proofs.Tryd.prog cxP 60 226 (seg pgF 0 4) (tm0 [.slo 0 0 np 0, .int .i64 m, .bool calm]) (mkS [.ro ks]) (vK pgL K)) = (
 K .normal [.slo 0 0 np 0, .int .i64 m, .bool calm, .ptr 1 0, .nils, .nils, .int .i64 0, .tup [], .tup [], .tup [], .tup [], .tup [], .tup [], .tup [], .tup [], .tup [], .tup [], .tup [], .tup []] [some (.ro ks), some (.cells [.nils] none)] []) := by kernel_rfl
abbrev pg_h_b1 (ks : List LV) (ls : List LV) (os : List LV) : List (Option LB) := [some (.ro ks), some (.cells [.nils] none), some (.cells ls (some 5)), some (.cells os (some 1))]
theorem pg_h (np : Nat) (m : Int) (calm : Bool) (nl k i : Nat) (ks ls os : List LV) (K : Pk) : (xsp Go.Proofs.Tryd.prog cxP 60 226 (seg pgR 0 2) (mkTm 226 (pgT np m calm nl k i)) (mkS (pgH ks ls os)) (vK pgL K)) = (
 bif xcm .lss ↑i ↑np then (
 K .normal [.slo 0 0 np 0, .int .i64 m, .bool calm, .ptr 1 0, .slo 2 0 nl 0, .slo 3 0 k 0, .int .i64 ↑i, .any, .any, .any, .any, .any, .any, .any, .any, .any, .any, .any, .any] (pg_h_b1 ks ls os) [])
 else (
 K (.exit 0) [.slo 0 0 np 0, .int .i64 m, .bool calm, .ptr 1 0, .slo 2 0 nl 0, .slo 3 0 k 0, .int .i64 ↑i, .any, .any, .any, .any, .any, .any, .any, .any, .any, .any, .any, .any] (pg_h_b1 ks ls os) [])) := by kernel_rfl
abbrev pg_b_b1 (i : Nat) (ks : List LV) (ls : List LV) (os : List LV) : List (Option LB) := [some (.ro ks), some (.cells [.nils] none), some (.cells ls (some 5)), some (.cells os (some 1)), some (.cells [.int .i64 (asI (nthD ks (xix 0 (xnat ↑i) 5))), .int .i64 (asI (nthD ks (xadd (xix 0 (xnat ↑i) 5) 1))), .int .i64 (asI (nthD ks (xadd (xadd (xix 0 (xnat ↑i) 5) 1) 1))), .int .i64 (asI (nthD ks (xadd (xadd (xadd (xix 0 (xnat ↑i) 5) 1) 1) 1))), .int .u64 (asI (nthD ks (xadd (xadd (xadd (xadd (xix 0 (xnat ↑i) 5) 1) 1) 1) 1)))] none)]
theorem pg_b (np : Nat) (m : Int) (calm : Bool) (nl k i : Nat) (ks ls os : List LV) (K : Pk) : (xsp Go.Proofs.Tryd.prog cxP 60 226 (seg pgB 0 5) (mkTm 226 (pgT np m calm nl k i)) (mkS (pgH ks ls os)) (vK pgL K)) = (
 bif xle (xadd (xnat ↑i) 1) np then
 bif xle (xadd (xix 0 (xnat ↑i) 5) 5) (xln ks) then
 bif isI .i64 (nthD ks (xix 0 (xnat ↑i) 5)) then
 bif isI .i64 (nthD ks (xadd (xix 0 (xnat ↑i) 5) 1)) then
 bif isI .i64 (nthD ks (xadd (xadd (xix 0 (xnat ↑i) 5) 1) 1)) then
 bif isI .i64 (nthD ks (xadd (xadd (xadd (xix 0 (xnat ↑i) 5) 1) 1) 1)) then
 bif isI .u64 (nthD ks (xadd (xadd (xadd (xadd (xix 0 (xnat ↑i) 5) 1) 1) 1) 1)) then
 bif xcm .gtr (xar .add .i64 (xar .add .i64 (↑nl) (xar .mul .i64 2 ↑k)) 5) m then (
 K (.exit 0) [.slo 0 0 np 0, .int .i64 m, .bool calm, .ptr 1 0, .slo 2 0 nl 0, .slo 3 0 k 0, .int .i64 ↑i, .ptr 4 0, .int .i64 ↑k, .any, .any, .any, .any, .any, .any, .any, .any, .any, .any] (pg_b_b1 i ks ls os) [])
 else (
 K .normal [.slo 0 0 np 0, .int .i64 m, .bool calm, .ptr 1 0, .slo 2 0 nl 0, .slo 3 0 k 0, .int .i64 ↑i, .ptr 4 0, .int .i64 ↑k, .int .i64 (wthV (asI (nthD ks (xix 0 (xnat ↑i) 5))) 0 40), .any, .any, .any, .any, .any, .any, .any, .any, .any] (pg_b_b1 i ks ls os) [])
 else False
 else False
 else False
 else False
 else False
 else False
 else False) := by kernel_rfl
theorem pt_0 (np : Nat) (m : Int) (calm : Bool) (nl k i : Nat) (w : Int) (ks ls os : List LV) (xw xa xb xc xn : Int) (K : Pk) : (xsp Go.Proofs.Tryd.prog cxP 60 226 (seg (spineL pgC0) 0 1) (mkTm 226 (pgA np m calm nl k i w)) (mkS (pgJ ks ls os xw xa xb xc xn)) (vK pgL K)) = (
 bif xcm .eql w 20 then (
 K .normal [.slo 0 0 np 0, .int .i64 m, .bool calm, .ptr 1 0, .slo 2 0 nl 0, .slo 3 0 k 0, .int .i64 ↑i, .ptr 4 0, .int .i64 ↑k, .int .i64 w, .bool (xcm .lss (↑k) 5), .any, .any, .any, .any, .any, .any, .any, .any] [some (.ro ks), some (.cells [.nils] none), some (.cells ls (some 5)), some (.cells os (some 1)), some (.cells [.int .i64 xw, .int .i64 xa, .int .i64 xb, .int .i64 xc, .int .u64 xn] none)] [])
 else (
 K .normal [.slo 0 0 np 0, .int .i64 m, .bool calm, .ptr 1 0, .slo 2 0 nl 0, .slo 3 0 k 0, .int .i64 ↑i, .ptr 4 0, .int .i64 ↑k, .int .i64 w, .bool false, .any, .any, .any, .any, .any, .any, .any, .any] [some (.ro ks), some (.cells [.nils] none), some (.cells ls (some 5)), some (.cells os (some 1)), some (.cells [.int .i64 xw, .int .i64 xa, .int .i64 xb, .int .i64 xc, .int .u64 xn] none)] [])) := by kernel_rfl
theorem pa_0 (q : Bool) (np : Nat) (m : Int) (calm : Bool) (nl k i : Nat) (w : Int) (ks ls os : List LV) (xw xa xb xc xn : Int) (K : Pk) : (xcode Go.Proofs.Tryd.prog cxP 60 226 (condT (nthC (spineL pgC0) 1)) (mkTm 226 ((41, .bool q) :: pgA np m calm nl k i w)) (mkS (pgJ ks ls os xw xa xb xc xn)) (vK pgL K)) = (
 bif xle (xadd nl 1) 1000000 then
 bif xle (xadd 0 (xmul nl 5)) (xln ls) then
 bif xle (xadd k 1) 1000000 then
 bif xle (xadd 0 (xmul k 1)) (xln os) then
 K .normal [.slo 0 0 np 0, .int .i64 m, .bool calm, .ptr 1 0, .slo 6 0 (xadd nl 1) 0, .slo 8 0 (xadd k 1) 0, .int .i64 ↑i, .ptr 4 0, .int .i64 ↑k, .int .i64 w, .bool q, .any, .any, .any, .any, .any, .any, .any, .any] [some (.ro ks), some (.cells [.nils] none), some .dead, some .dead, some (.cells [.int .i64 xw, .int .i64 xa, .int .i64 xb, .int .i64 xc, .int .u64 xn] none), some (.cells [.int .i64 14, .int .i64 0, .int .i64 0, .int .i64 0, .int .u64 0] none), some (.cells (xcat (xcut ls 0 (xmul nl 5)) [.int .i64 14, .int .i64 0, .int .i64 0, .int .i64 0, .int .u64 0]) (some 5)), some (.cells [.int .i64 14] none), some (.cells (xcat (xcut os 0 (xmul k 1)) [.int .i64 14]) (some 1))] []
 else False
 else False
 else False
 else False) := by kernel_rfl
theorem pt_1 (q : Bool) (np : Nat) (m : Int) (calm : Bool) (nl k i : Nat) (w : Int) (ks ls os : List LV) (xw xa xb xc xn : Int) (K : Pk) : (xsp Go.Proofs.Tryd.prog cxP 60 226 (seg (spineL pgC1) 0 1) (mkTm 226 ((41, .bool q) :: pgA np m calm nl k i w)) (mkS (pgJ ks ls os xw xa xb xc xn)) (vK pgL K)) = (
 bif xcm .eql w 21 then (
 K .normal [.slo 0 0 np 0, .int .i64 m, .bool calm, .ptr 1 0, .slo 2 0 nl 0, .slo 3 0 k 0, .int .i64 ↑i, .ptr 4 0, .int .i64 ↑k, .int .i64 w, .bool q, .bool (xcm .lss (↑k) 5), .any, .any, .any, .any, .any, .any, .any] [some (.ro ks), some (.cells [.nils] none), some (.cells ls (some 5)), some (.cells os (some 1)), some (.cells [.int .i64 xw, .int .i64 xa, .int .i64 xb, .int .i64 xc, .int .u64 xn] none)] [])
 else (
 bif xcm .eql w 22 then (
 K .normal [.slo 0 0 np 0, .int .i64 m, .bool calm, .ptr 1 0, .slo 2 0 nl 0, .slo 3 0 k 0, .int .i64 ↑i, .ptr 4 0, .int .i64 ↑k, .int .i64 w, .bool q, .bool (xcm .lss (↑k) 5), .any, .any, .any, .any, .any, .any, .any] [some (.ro ks), some (.cells [.nils] none), some (.cells ls (some 5)), some (.cells os (some 1)), some (.cells [.int .i64 xw, .int .i64 xa, .int .i64 xb, .int .i64 xc, .int .u64 xn] none)] [])
 else (
 K .normal [.slo 0 0 np 0, .int .i64 m, .bool calm, .ptr 1 0, .slo 2 0 nl 0, .slo 3 0 k 0, .int .i64 ↑i, .ptr 4 0, .int .i64 ↑k, .int .i64 w, .bool q, .bool false, .any, .any, .any, .any, .any, .any, .any] [some (.ro ks), some (.cells [.nils] none), some (.cells ls (some 5)), some (.cells os (some 1)), some (.cells [.int .i64 xw, .int .i64 xa, .int .i64 xb, .int .i64 xc, .int .u64 xn] none)] []))) := by kernel_rfl
theorem pa_1 (q : Bool) (np : Nat) (m : Int) (calm : Bool) (nl k i : Nat) (w : Int) (ks ls os : List LV) (xw xa xb xc xn : Int) (K : Pk) : (xcode Go.Proofs.Tryd.prog cxP 60 226 (condT (nthC (spineL pgC1) 1)) (mkTm 226 ((55, .bool q) :: pgA np m calm nl k i w)) (mkS (pgJ ks ls os xw xa xb xc xn)) (vK pgL K)) = (
 bif xle (xadd nl 1) 1000000 then
 bif xle (xadd 0 (xmul nl 5)) (xln ls) then
 bif xle (xadd k 1) 1000000 then
 bif xle (xadd 0 (xmul k 1)) (xln os) then
 K .normal [.slo 0 0 np 0, .int .i64 m, .bool calm, .ptr 1 0, .slo 6 0 (xadd nl 1) 0, .slo 8 0 (xadd k 1) 0, .int .i64 ↑i, .ptr 4 0, .int .i64 ↑k, .int .i64 w, .any, .bool q, .any, .any, .any, .any, .any, .any, .any] [some (.ro ks), some (.cells [.nils] none), some .dead, some .dead, some (.cells [.int .i64 xw, .int .i64 xa, .int .i64 xb, .int .i64 xc, .int .u64 xn] none), some (.cells [.int .i64 17, .int .i64 0, .int .i64 0, .int .i64 0, .int .u64 0] none), some (.cells (xcat (xcut ls 0 (xmul nl 5)) [.int .i64 17, .int .i64 0, .int .i64 0, .int .i64 0, .int .u64 0]) (some 5)), some (.cells [.int .i64 17] none), some (.cells (xcat (xcut os 0 (xmul k 1)) [.int .i64 17]) (some 1))] []
 else False
 else False
 else False
 else False) := by kernel_rfl
theorem pt_2 (q : Bool) (np : Nat) (m : Int) (calm : Bool) (nl k i : Nat) (w : Int) (ks ls os : List LV) (xw xa xb xc xn : Int) (K : Pk) : (xsp Go.Proofs.Tryd.prog cxP 60 226 (seg (spineL pgC2) 0 1) (mkTm 226 ((55, .bool q) :: pgA np m calm nl k i w)) (mkS (pgJ ks ls os xw xa xb xc xn)) (vK pgL K)) = (
 bif xcm .eql w 23 then (
 K .normal [.slo 0 0 np 0, .int .i64 m, .bool calm, .ptr 1 0, .slo 2 0 nl 0, .slo 3 0 k 0, .int .i64 ↑i, .ptr 4 0, .int .i64 ↑k, .int .i64 w, .any, .bool q, .bool (xcm .gtr (↑k) 0), .any, .any, .any, .any, .any, .any] [some (.ro ks), some (.cells [.nils] none), some (.cells ls (some 5)), some (.cells os (some 1)), some (.cells [.int .i64 xw, .int .i64 xa, .int .i64 xb, .int .i64 xc, .int .u64 xn] none)] [])
 else (
 bif xcm .eql w 24 then (
 K .normal [.slo 0 0 np 0, .int .i64 m, .bool calm, .ptr 1 0, .slo 2 0 nl 0, .slo 3 0 k 0, .int .i64 ↑i, .ptr 4 0, .int .i64 ↑k, .int .i64 w, .any, .bool q, .bool (xcm .gtr (↑k) 0), .any, .any, .any, .any, .any, .any] [some (.ro ks), some (.cells [.nils] none), some (.cells ls (some 5)), some (.cells os (some 1)), some (.cells [.int .i64 xw, .int .i64 xa, .int .i64 xb, .int .i64 xc, .int .u64 xn] none)] [])
 else (
 K .normal [.slo 0 0 np 0, .int .i64 m, .bool calm, .ptr 1 0, .slo 2 0 nl 0, .slo 3 0 k 0, .int .i64 ↑i, .ptr 4 0, .int .i64 ↑k, .int .i64 w, .any, .bool q, .bool false, .any, .any, .any, .any, .any, .any] [some (.ro ks), some (.cells [.nils] none), some (.cells ls (some 5)), some (.cells os (some 1)), some (.cells [.int .i64 xw, .int .i64 xa, .int .i64 xb, .int .i64 xc, .int .u64 xn] none)] []))) := by kernel_rfl
theorem pa_2 (q : Bool) (np : Nat) (m : Int) (calm : Bool) (nl k i : Nat) (w : Int) (ks ls os : List LV) (xw xa xb xc xn : Int) (K : Pk) : (xcode Go.Proofs.Tryd.prog cxP 60 226 (condT (nthC (spineL pgC2) 1)) (mkTm 226 ((73, .bool q) :: pgA np m calm nl k i w)) (mkS (pgJ ks ls os xw xa xb xc xn)) (vK pgL K)) = (
 bif xnn (xar .sub .i64 (↑k) 1) then
 bif xle (xadd (xnat (xar .sub .i64 (↑k) 1)) 1) k then
 bif xle (xadd (xix 0 (xnat (xar .sub .i64 (↑k) 1)) 1) 1) (xln os) then
 bif isI .i64 (nthD os (xix 0 (xnat (xar .sub .i64 (↑k) 1)) 1)) then
 bif xcm .eql (asI (nthD os (xix 0 (xnat (xar .sub .i64 (↑k) 1)) 1))) 14 then (
 bif xle (xadd nl 1) 1000000 then
 bif xle (xadd 0 (xmul nl 5)) (xln ls) then
 bif xnn (xar .sub .i64 (↑k) 1) then
 bif xle (xnat (xar .sub .i64 (↑k) 1)) k then
 K .normal [.slo 0 0 np 0, .int .i64 m, .bool calm, .ptr 1 0, .slo 6 0 (xadd nl 1) 0, .slo 3 0 (xsub (xnat (xar .sub .i64 (↑k) 1)) 0) 0, .int .i64 ↑i, .ptr 4 0, .int .i64 ↑k, .int .i64 w, .any, .any, .bool q, .any, .any, .any, .any, .any, .any] [some (.ro ks), some (.cells [.nils] none), some .dead, some (.cells os (some 1)), some (.cells [.int .i64 xw, .int .i64 xa, .int .i64 xb, .int .i64 xc, .int .u64 xn] none), some (.cells [.int .i64 15, .int .i64 0, .int .i64 0, .int .i64 0, .int .u64 0] none), some (.cells (xcat (xcut ls 0 (xmul nl 5)) [.int .i64 15, .int .i64 0, .int .i64 0, .int .i64 0, .int .u64 0]) (some 5))] []
 else False
 else False
 else False
 else False)
 else (
 bif xcm .eql (asI (nthD os (xix 0 (xnat (xar .sub .i64 (↑k) 1)) 1))) 17 then (
 bif xnn (xar .sub .i64 (↑k) 1) then
 bif xle (xnat (xar .sub .i64 (↑k) 1)) k then
 bif xle (xadd 0 (xmul (xsub (xnat (xar .sub .i64 (↑k) 1)) 0) 1)) (xln os) then
 bif xz (xsub (xnat (xar .sub .i64 (↑k) 1)) 0) then (
 bif xle (xadd nl 1) 1000000 then
 bif xle (xadd 0 (xmul nl 5)) (xln ls) then
 K .normal [.slo 0 0 np 0, .int .i64 m, .bool calm, .ptr 1 0, .slo 8 0 (xadd nl 1) 0, .slo 6 0 1 0, .int .i64 ↑i, .ptr 4 0, .int .i64 ↑k, .int .i64 w, .any, .any, .bool q, .any, .any, .any, .any, .any, .any] [some (.ro ks), some (.cells [.nils] none), some .dead, some (.cells os (some 1)), some (.cells [.int .i64 xw, .int .i64 xa, .int .i64 xb, .int .i64 xc, .int .u64 xn] none), some (.cells [.int .i64 18] none), some (.cells [.int .i64 18] (some 1)), some (.cells [.int .i64 18, .int .i64 0, .int .i64 0, .int .i64 0, .int .u64 0] none), some (.cells (xcat (xcut ls 0 (xmul nl 5)) [.int .i64 18, .int .i64 0, .int .i64 0, .int .i64 0, .int .u64 0]) (some 5))] []
 else False
 else False)
 else (
 bif xle (xsub (xnat (xar .sub .i64 (↑k) 1)) 0) 1000000 then
 bif xle (xadd (xsub (xnat (xar .sub .i64 (↑k) 1)) 0) 1) 1000000 then
 bif xle (xadd 0 (xmul (xsub (xnat (xar .sub .i64 (↑k) 1)) 0) 1)) (xln (xcut os 0 (xmul (xsub (xnat (xar .sub .i64 (↑k) 1)) 0) 1))) then
 bif xle (xadd nl 1) 1000000 then
 bif xle (xadd 0 (xmul nl 5)) (xln ls) then
 K .normal [.slo 0 0 np 0, .int .i64 m, .bool calm, .ptr 1 0, .slo 9 0 (xadd nl 1) 0, .slo 7 0 (xadd (xsub (xnat (xar .sub .i64 (↑k) 1)) 0) 1) 0, .int .i64 ↑i, .ptr 4 0, .int .i64 ↑k, .int .i64 w, .any, .any, .bool q, .any, .any, .any, .any, .any, .any] [some (.ro ks), some (.cells [.nils] none), some .dead, some (.cells os (some 1)), some (.cells [.int .i64 xw, .int .i64 xa, .int .i64 xb, .int .i64 xc, .int .u64 xn] none), some .dead, some (.cells [.int .i64 18] none), some (.cells (xcat (xcut (xcut os 0 (xmul (xsub (xnat (xar .sub .i64 (↑k) 1)) 0) 1)) 0 (xmul (xsub (xnat (xar .sub .i64 (↑k) 1)) 0) 1)) [.int .i64 18]) (some 1)), some (.cells [.int .i64 18, .int .i64 0, .int .i64 0, .int .i64 0, .int .u64 0] none), some (.cells (xcat (xcut ls 0 (xmul nl 5)) [.int .i64 18, .int .i64 0, .int .i64 0, .int .i64 0, .int .u64 0]) (some 5))] []
 else False
 else False
 else False
 else False
 else False)
 else False
 else False
 else False)
 else (
 bif xle (xadd nl 1) 1000000 then
 bif xle (xadd 0 (xmul nl 5)) (xln ls) then
 bif xnn (xar .sub .i64 (↑k) 1) then
 bif xle (xnat (xar .sub .i64 (↑k) 1)) k then
 K .normal [.slo 0 0 np 0, .int .i64 m, .bool calm, .ptr 1 0, .slo 6 0 (xadd nl 1) 0, .slo 3 0 (xsub (xnat (xar .sub .i64 (↑k) 1)) 0) 0, .int .i64 ↑i, .ptr 4 0, .int .i64 ↑k, .int .i64 w, .any, .any, .bool q, .any, .any, .any, .any, .any, .any] [some (.ro ks), some (.cells [.nils] none), some .dead, some (.cells os (some 1)), some (.cells [.int .i64 xw, .int .i64 xa, .int .i64 xb, .int .i64 xc, .int .u64 xn] none), some (.cells [.int .i64 19, .int .i64 0, .int .i64 0, .int .i64 0, .int .u64 0] none), some (.cells (xcat (xcut ls 0 (xmul nl 5)) [.int .i64 19, .int .i64 0, .int .i64 0, .int .i64 0, .int .u64 0]) (some 5))] []
 else False
 else False
 else False
 else False))
 else False
 else False
 else False
 else False) := by kernel_rfl
theorem pt_3 (q : Bool) (np : Nat) (m : Int) (calm : Bool) (nl k i : Nat) (w : Int) (ks ls os : List LV) (xw xa xb xc xn : Int) (K : Pk) : (xsp Go.Proofs.Tryd.prog cxP 60 226 (seg (spineL pgC3) 0 1) (mkTm 226 ((73, .bool q) :: pgA np m calm nl k i w)) (mkS (pgJ ks ls os xw xa xb xc xn)) (vK pgL K)) = (
 bif xcm .eql w 25 then (
 bif xcm .gtr (↑k) 0 then (
 bif xnn (xar .sub .i64 (↑k) 1) then
 bif xle (xadd (xnat (xar .sub .i64 (↑k) 1)) 1) k then
 bif xle (xadd (xix 0 (xnat (xar .sub .i64 (↑k) 1)) 1) 1) (xln os) then
 bif isI .i64 (nthD os (xix 0 (xnat (xar .sub .i64 (↑k) 1)) 1)) then
 K .normal [.slo 0 0 np 0, .int .i64 m, .bool calm, .ptr 1 0, .slo 2 0 nl 0, .slo 3 0 k 0, .int .i64 ↑i, .ptr 4 0, .int .i64 ↑k, .int .i64 w, .any, .any, .bool q, .bool (xcm .eql (asI (nthD os (xix 0 (xnat (xar .sub .i64 (↑k) 1)) 1))) 14), .any, .any, .any, .any, .any] [some (.ro ks), some (.cells [.nils] none), some (.cells ls (some 5)), some (.cells os (some 1)), some (.cells [.int .i64 xw, .int .i64 xa, .int .i64 xb, .int .i64 xc, .int .u64 xn] none)] []
 else False
 else False
 else False
 else False)
 else (
 K .normal [.slo 0 0 np 0, .int .i64 m, .bool calm, .ptr 1 0, .slo 2 0 nl 0, .slo 3 0 k 0, .int .i64 ↑i, .ptr 4 0, .int .i64 ↑k, .int .i64 w, .any, .any, .bool q, .bool false, .any, .any, .any, .any, .any] [some (.ro ks), some (.cells [.nils] none), some (.cells ls (some 5)), some (.cells os (some 1)), some (.cells [.int .i64 xw, .int .i64 xa, .int .i64 xb, .int .i64 xc, .int .u64 xn] none)] []))
 else (
 K .normal [.slo 0 0 np 0, .int .i64 m, .bool calm, .ptr 1 0, .slo 2 0 nl 0, .slo 3 0 k 0, .int .i64 ↑i, .ptr 4 0, .int .i64 ↑k, .int .i64 w, .any, .any, .bool q, .bool false, .any, .any, .any, .any, .any] [some (.ro ks), some (.cells [.nils] none), some (.cells ls (some 5)), some (.cells os (some 1)), some (.cells [.int .i64 xw, .int .i64 xa, .int .i64 xb, .int .i64 xc, .int .u64 xn] none)] [])) := by kernel_rfl
theorem pa_3 (q : Bool) (np : Nat) (m : Int) (calm : Bool) (nl k i : Nat) (w : Int) (ks ls os : List LV) (xw xa xb xc xn : Int) (K : Pk) : (xcode Go.Proofs.Tryd.prog cxP 60 226 (condT (nthC (spineL pgC3) 1)) (mkTm 226 ((90, .bool q) :: pgA np m calm nl k i w)) (mkS (pgJ ks ls os xw xa xb xc xn)) (vK pgL K)) = (
 bif xle (xadd nl 1) 1000000 then
 bif xle (xadd 0 (xmul nl 5)) (xln ls) then
 K .normal [.slo 0 0 np 0, .int .i64 m, .bool calm, .ptr 1 0, .slo 6 0 (xadd nl 1) 0, .slo 3 0 k 0, .int .i64 ↑i, .ptr 4 0, .int .i64 ↑k, .int .i64 w, .any, .any, .any, .bool q, .any, .any, .any, .any, .any] [some (.ro ks), some (.cells [.nils] none), some .dead, some (.cells os (some 1)), some (.cells [.int .i64 xw, .int .i64 xa, .int .i64 xb, .int .i64 xc, .int .u64 xn] none), some (.cells [.int .i64 16, .int .i64 0, .int .i64 0, .int .i64 0, .int .u64 0] none), some (.cells (xcat (xcut ls 0 (xmul nl 5)) [.int .i64 16, .int .i64 0, .int .i64 0, .int .i64 0, .int .u64 0]) (some 5))] []
 else False
 else False) := by kernel_rfl
abbrev pt_4_b1 (ks : List LV) (ls : List LV) (os : List LV) (xw : Int) (xa : Int) (xb : Int) (xc : Int) (xn : Int) : List (Option LB) := [some (.ro ks), some (.cells [.nils] none), some (.cells ls (some 5)), some (.cells os (some 1)), some (.cells [.int .i64 xw, .int .i64 xa, .int .i64 xb, .int .i64 xc, .int .u64 xn] none)]
theorem pt_4 (q : Bool) (np : Nat) (m : Int) (calm : Bool) (nl k i : Nat) (w : Int) (ks ls os : List LV) (xw xa xb xc xn : Int) (K : Pk) : (xsp Go.Proofs.Tryd.prog cxP 60 226 (seg (spineL pgC4) 0 1) (mkTm 226 ((90, .bool q) :: pgA np m calm nl k i w)) (mkS (pgJ ks ls os xw xa xb xc xn)) (vK pgL K)) = (
 bif xcm .eql w 26 then (
 bif xnot calm then (
 K .normal [.slo 0 0 np 0, .int .i64 m, .bool calm, .ptr 1 0, .slo 2 0 nl 0, .slo 3 0 k 0, .int .i64 ↑i, .ptr 4 0, .int .i64 ↑k, .int .i64 w, .any, .any, .any, .bool q, .bool (xcm .gtr (↑k) 0), .any, .any, .any, .any] (pt_4_b1 ks ls os xw xa xb xc xn) [])
 else (
 K .normal [.slo 0 0 np 0, .int .i64 m, .bool calm, .ptr 1 0, .slo 2 0 nl 0, .slo 3 0 k 0, .int .i64 ↑i, .ptr 4 0, .int .i64 ↑k, .int .i64 w, .any, .any, .any, .bool q, .bool false, .any, .any, .any, .any] (pt_4_b1 ks ls os xw xa xb xc xn) []))
 else (
 bif xcm .eql w 27 then (
 bif xnot calm then (
 K .normal [.slo 0 0 np 0, .int .i64 m, .bool calm, .ptr 1 0, .slo 2 0 nl 0, .slo 3 0 k 0, .int .i64 ↑i, .ptr 4 0, .int .i64 ↑k, .int .i64 w, .any, .any, .any, .bool q, .bool (xcm .gtr (↑k) 0), .any, .any, .any, .any] (pt_4_b1 ks ls os xw xa xb xc xn) [])
 else (
 K .normal [.slo 0 0 np 0, .int .i64 m, .bool calm, .ptr 1 0, .slo 2 0 nl 0, .slo 3 0 k 0, .int .i64 ↑i, .ptr 4 0, .int .i64 ↑k, .int .i64 w, .any, .any, .any, .bool q, .bool false, .any, .any, .any, .any] (pt_4_b1 ks ls os xw xa xb xc xn) []))
 else (
 K .normal [.slo 0 0 np 0, .int .i64 m, .bool calm, .ptr 1 0, .slo 2 0 nl 0, .slo 3 0 k 0, .int .i64 ↑i, .ptr 4 0, .int .i64 ↑k, .int .i64 w, .any, .any, .any, .bool q, .bool false, .any, .any, .any, .any] (pt_4_b1 ks ls os xw xa xb xc xn) []))) := by kernel_rfl
theorem pa_4 (q : Bool) (np : Nat) (m : Int) (calm : Bool) (nl k i : Nat) (w : Int) (ks ls os : List LV) (xw xa xb xc xn : Int) (K : Pk) : (xcode Go.Proofs.Tryd.prog cxP 60 226 (condT (nthC (spineL pgC4) 1)) (mkTm 226 ((109, .bool q) :: pgA np m calm nl k i w)) (mkS (pgJ ks ls os xw xa xb xc xn)) (vK pgL K)) = (
 bif xle (xadd nl 2) 1000000 then
 bif xle (xadd 0 (xmul nl 5)) (xln ls) then
 K .normal [.slo 0 0 np 0, .int .i64 m, .bool calm, .ptr 1 0, .slo 6 0 (xadd nl 2) 0, .slo 3 0 k 0, .int .i64 ↑i, .ptr 4 0, .int .i64 ↑k, .int .i64 w, .any, .any, .any, .any, .bool q, .any, .any, .any, .any] [some (.ro ks), some (.cells [.nils] none), some .dead, some (.cells os (some 1)), some (.cells [.int .i64 xw, .int .i64 xa, .int .i64 xb, .int .i64 xc, .int .u64 xn] none), some (.cells [.int .i64 13, .int .i64 (wthV xa 0 6), .int .i64 0, .int .i64 (xar .add .i64 (↑nl) 2), .int .u64 0, .int .i64 20, .int .i64 0, .int .i64 0, .int .i64 0, .int .u64 0] none), some (.cells (xcat (xcut ls 0 (xmul nl 5)) [.int .i64 13, .int .i64 (wthV xa 0 6), .int .i64 0, .int .i64 (xar .add .i64 (↑nl) 2), .int .u64 0, .int .i64 20, .int .i64 0, .int .i64 0, .int .i64 0, .int .u64 0]) (some 5))] []
 else False
 else False) := by kernel_rfl
theorem pt_5 (q : Bool) (np : Nat) (m : Int) (calm : Bool) (nl k i : Nat) (w : Int) (ks ls os : List LV) (xw xa xb xc xn : Int) (K : Pk) : (xsp Go.Proofs.Tryd.prog cxP 60 226 (seg (spineL pgC5) 0 1) (mkTm 226 ((109, .bool q) :: pgA np m calm nl k i w)) (mkS (pgJ ks ls os xw xa xb xc xn)) (vK pgL K)) = (
 bif xcm .eql w 28 then (
 K .normal [.slo 0 0 np 0, .int .i64 m, .bool calm, .ptr 1 0, .slo 2 0 nl 0, .slo 3 0 k 0, .int .i64 ↑i, .ptr 4 0, .int .i64 ↑k, .int .i64 w, .any, .any, .any, .any, .bool q, .bool (xnot calm), .any, .any, .any] [some (.ro ks), some (.cells [.nils] none), some (.cells ls (some 5)), some (.cells os (some 1)), some (.cells [.int .i64 xw, .int .i64 xa, .int .i64 xb, .int .i64 xc, .int .u64 xn] none)] [])
 else (
 K .normal [.slo 0 0 np 0, .int .i64 m, .bool calm, .ptr 1 0, .slo 2 0 nl 0, .slo 3 0 k 0, .int .i64 ↑i, .ptr 4 0, .int .i64 ↑k, .int .i64 w, .any, .any, .any, .any, .bool q, .bool false, .any, .any, .any] [some (.ro ks), some (.cells [.nils] none), some (.cells ls (some 5)), some (.cells os (some 1)), some (.cells [.int .i64 xw, .int .i64 xa, .int .i64 xb, .int .i64 xc, .int .u64 xn] none)] [])) := by kernel_rfl
theorem pa_5 (q : Bool) (np : Nat) (m : Int) (calm : Bool) (nl k i : Nat) (w : Int) (ks ls os : List LV) (xw xa xb xc xn : Int) (K : Pk) : (xcode Go.Proofs.Tryd.prog cxP 60 226 (condT (nthC (spineL pgC5) 1)) (mkTm 226 ((135, .bool q) :: pgA np m calm nl k i w)) (mkS (pgJ ks ls os xw xa xb xc xn)) (vK pgL K)) = (
 bif xle (xadd nl 2) 1000000 then
 bif xle (xadd 0 (xmul nl 5)) (xln ls) then
 K .normal [.slo 0 0 np 0, .int .i64 m, .bool calm, .ptr 1 0, .slo 6 0 (xadd nl 2) 0, .slo 3 0 k 0, .int .i64 ↑i, .ptr 4 0, .int .i64 ↑k, .int .i64 w, .any, .any, .any, .any, .any, .bool q, .any, .any, .any] [some (.ro ks), some (.cells [.nils] none), some .dead, some (.cells os (some 1)), some (.cells [.int .i64 xw, .int .i64 xa, .int .i64 xb, .int .i64 xc, .int .u64 xn] none), some (.cells [.int .i64 13, .int .i64 (wthV xa 0 6), .int .i64 0, .int .i64 (xar .add .i64 (↑nl) 2), .int .u64 0, .int .i64 20, .int .i64 0, .int .i64 0, .int .i64 0, .int .u64 0] none), some (.cells (xcat (xcut ls 0 (xmul nl 5)) [.int .i64 13, .int .i64 (wthV xa 0 6), .int .i64 0, .int .i64 (xar .add .i64 (↑nl) 2), .int .u64 0, .int .i64 20, .int .i64 0, .int .i64 0, .int .i64 0, .int .u64 0]) (some 5))] []
 else False
 else False) := by kernel_rfl
theorem pt_6 (q : Bool) (np : Nat) (m : Int) (calm : Bool) (nl k i : Nat) (w : Int) (ks ls os : List LV) (xw xa xb xc xn : Int) (K : Pk) : (xsp Go.Proofs.Tryd.prog cxP 60 226 (seg (spineL pgC6) 0 1) (mkTm 226 ((135, .bool q) :: pgA np m calm nl k i w)) (mkS (pgJ ks ls os xw xa xb xc xn)) (vK pgL K)) = (
 bif xcm .eql w 29 then (
 K .normal [.slo 0 0 np 0, .int .i64 m, .bool calm, .ptr 1 0, .slo 2 0 nl 0, .slo 3 0 k 0, .int .i64 ↑i, .ptr 4 0, .int .i64 ↑k, .int .i64 w, .any, .any, .any, .any, .any, .bool q, .bool (xnot calm), .any, .any] [some (.ro ks), some (.cells [.nils] none), some (.cells ls (some 5)), some (.cells os (some 1)), some (.cells [.int .i64 xw, .int .i64 xa, .int .i64 xb, .int .i64 xc, .int .u64 xn] none)] [])
 else (
 K .normal [.slo 0 0 np 0, .int .i64 m, .bool calm, .ptr 1 0, .slo 2 0 nl 0, .slo 3 0 k 0, .int .i64 ↑i, .ptr 4 0, .int .i64 ↑k, .int .i64 w, .any, .any, .any, .any, .any, .bool q, .bool false, .any, .any] [some (.ro ks), some (.cells [.nils] none), some (.cells ls (some 5)), some (.cells os (some 1)), some (.cells [.int .i64 xw, .int .i64 xa, .int .i64 xb, .int .i64 xc, .int .u64 xn] none)] [])) := by kernel_rfl
theorem pa_6 (q : Bool) (np : Nat) (m : Int) (calm : Bool) (nl k i : Nat) (w : Int) (ks ls os : List LV) (xw xa xb xc xn : Int) (K : Pk) : (xcode Go.Proofs.Tryd.prog cxP 60 226 (condT (nthC (spineL pgC6) 1)) (mkTm 226 ((153, .bool q) :: pgA np m calm nl k i w)) (mkS (pgJ ks ls os xw xa xb xc xn)) (vK pgL K)) = (
 bif xle (xadd nl 2) 1000000 then
 bif xle (xadd 0 (xmul nl 5)) (xln ls) then
 K .normal [.slo 0 0 np 0, .int .i64 m, .bool calm, .ptr 1 0, .slo 6 0 (xadd nl 2) 0, .slo 3 0 k 0, .int .i64 ↑i, .ptr 4 0, .int .i64 ↑k, .int .i64 w, .any, .any, .any, .any, .any, .any, .bool q, .any, .any] [some (.ro ks), some (.cells [.nils] none), some .dead, some (.cells os (some 1)), some (.cells [.int .i64 xw, .int .i64 xa, .int .i64 xb, .int .i64 xc, .int .u64 xn] none), some (.cells [.int .i64 13, .int .i64 (wthV xa 0 6), .int .i64 0, .int .i64 (xar .add .i64 (↑nl) 2), .int .u64 0, .int .i64 22, .int .i64 0, .int .i64 0, .int .i64 0, .int .u64 0] none), some (.cells (xcat (xcut ls 0 (xmul nl 5)) [.int .i64 13, .int .i64 (wthV xa 0 6), .int .i64 0, .int .i64 (xar .add .i64 (↑nl) 2), .int .u64 0, .int .i64 22, .int .i64 0, .int .i64 0, .int .i64 0, .int .u64 0]) (some 5))] []
 else False
 else False) := by kernel_rfl
theorem pt_7 (q : Bool) (np : Nat) (m : Int) (calm : Bool) (nl k i : Nat) (w : Int) (ks ls os : List LV) (xw xa xb xc xn : Int) (K : Pk) : (xsp Go.Proofs.Tryd.prog cxP 60 226 (seg (spineL pgC7) 0 1) (mkTm 226 ((153, .bool q) :: pgA np m calm nl k i w)) (mkS (pgJ ks ls os xw xa xb xc xn)) (vK pgL K)) = (
 bif xcm .eql w 30 then (
 K .normal [.slo 0 0 np 0, .int .i64 m, .bool calm, .ptr 1 0, .slo 2 0 nl 0, .slo 3 0 k 0, .int .i64 ↑i, .ptr 4 0, .int .i64 ↑k, .int .i64 w, .any, .any, .any, .any, .any, .any, .bool q, .bool true, .any] [some (.ro ks), some (.cells [.nils] none), some (.cells ls (some 5)), some (.cells os (some 1)), some (.cells [.int .i64 xw, .int .i64 xa, .int .i64 xb, .int .i64 xc, .int .u64 xn] none)] [])
 else (
 K .normal [.slo 0 0 np 0, .int .i64 m, .bool calm, .ptr 1 0, .slo 2 0 nl 0, .slo 3 0 k 0, .int .i64 ↑i, .ptr 4 0, .int .i64 ↑k, .int .i64 w, .any, .any, .any, .any, .any, .any, .bool q, .bool (xcm .eql w 31), .any] [some (.ro ks), some (.cells [.nils] none), some (.cells ls (some 5)), some (.cells os (some 1)), some (.cells [.int .i64 xw, .int .i64 xa, .int .i64 xb, .int .i64 xc, .int .u64 xn] none)] [])) := by kernel_rfl
theorem pa_7 (q : Bool) (np : Nat) (m : Int) (calm : Bool) (nl k i : Nat) (w : Int) (ks ls os : List LV) (xw xa xb xc xn : Int) (K : Pk) : (xcode Go.Proofs.Tryd.prog cxP 60 226 (condT (nthC (spineL pgC7) 1)) (mkTm 226 ((171, .bool q) :: pgA np m calm nl k i w)) (mkS (pgJ ks ls os xw xa xb xc xn)) (vK pgL K)) = (
 bif xle (xadd nl 2) 1000000 then
 bif xle (xadd 0 (xmul nl 5)) (xln ls) then
 bif xcm .eql xw xw then
 bif xcm .eql xa xa then
 bif xcm .eql xb xb then
 bif xcm .eql xc xc then
 bif xcm .eql xn xn then
 bif xcm .eql xw xw then
 bif xcm .eql xa xa then
 bif xcm .eql xb xb then
 bif xcm .eql xc xc then
 bif xcm .eql xn xn then
 K .normal [.slo 0 0 np 0, .int .i64 m, .bool calm, .ptr 1 0, .slo 6 0 (xadd nl 2) 0, .slo 3 0 k 0, .int .i64 ↑i, .ptr 4 0, .int .i64 ↑k, .int .i64 w, .any, .any, .any, .any, .any, .any, .any, .bool q, .any] [some (.ro ks), some (.cells [.nils] none), some .dead, some (.cells os (some 1)), some (.cells [.int .i64 xw, .int .i64 xa, .int .i64 xb, .int .i64 xc, .int .u64 xn] none), some (.cells [.int .i64 13, .int .i64 (wthV xb 0 6), .int .i64 0, .int .i64 (xar .add .i64 (↑nl) 2), .int .u64 0, .int .i64 (smO xw xa xb xc xn), .int .i64 (smA xw xa xb xc xn), .int .i64 (smB xw xa xb xc xn), .int .i64 (smC xw xa xb xc xn), .int .u64 (smN xw xa xb xc xn)] none), some (.cells (xcat (xcut ls 0 (xmul nl 5)) [.int .i64 13, .int .i64 (wthV xb 0 6), .int .i64 0, .int .i64 (xar .add .i64 (↑nl) 2), .int .u64 0, .int .i64 (smO xw xa xb xc xn), .int .i64 (smA xw xa xb xc xn), .int .i64 (smB xw xa xb xc xn), .int .i64 (smC xw xa xb xc xn), .int .u64 (smN xw xa xb xc xn)]) (some 5))] []
 else False
 else False
 else False
 else False
 else False
 else False
 else False
 else False
 else False
 else False
 else False
 else False) := by kernel_rfl
theorem pt_8 (q : Bool) (np : Nat) (m : Int) (calm : Bool) (nl k i : Nat) (w : Int) (ks ls os : List LV) (xw xa xb xc xn : Int) (K : Pk) : (xsp Go.Proofs.Tryd.prog cxP 60 226 (seg (spineL pgC8) 0 1) (mkTm 226 ((171, .bool q) :: pgA np m calm nl k i w)) (mkS (pgJ ks ls os xw xa xb xc xn)) (vK pgL K)) = (
 bif xcm .eql w 32 then (
 K .normal [.slo 0 0 np 0, .int .i64 m, .bool calm, .ptr 1 0, .slo 2 0 nl 0, .slo 3 0 k 0, .int .i64 ↑i, .ptr 4 0, .int .i64 ↑k, .int .i64 w, .any, .any, .any, .any, .any, .any, .any, .bool q, .bool (xnot calm)] [some (.ro ks), some (.cells [.nils] none), some (.cells ls (some 5)), some (.cells os (some 1)), some (.cells [.int .i64 xw, .int .i64 xa, .int .i64 xb, .int .i64 xc, .int .u64 xn] none)] [])
 else (
 K .normal [.slo 0 0 np 0, .int .i64 m, .bool calm, .ptr 1 0, .slo 2 0 nl 0, .slo 3 0 k 0, .int .i64 ↑i, .ptr 4 0, .int .i64 ↑k, .int .i64 w, .any, .any, .any, .any, .any, .any, .any, .bool q, .bool false] [some (.ro ks), some (.cells [.nils] none), some (.cells ls (some 5)), some (.cells os (some 1)), some (.cells [.int .i64 xw, .int .i64 xa, .int .i64 xb, .int .i64 xc, .int .u64 xn] none)] [])) := by kernel_rfl
theorem pa_8 (q : Bool) (np : Nat) (m : Int) (calm : Bool) (nl k i : Nat) (w : Int) (ks ls os : List LV) (xw xa xb xc xn : Int) (K : Pk) : (xcode Go.Proofs.Tryd.prog cxP 60 226 (condT (nthC (spineL pgC8) 1)) (mkTm 226 ((190, .bool q) :: pgA np m calm nl k i w)) (mkS (pgJ ks ls os xw xa xb xc xn)) (vK pgL K)) = (
 bif xle (xadd nl 2) 1000000 then
 bif xle (xadd 0 (xmul nl 5)) (xln ls) then
 bif xcm .eql xb xb then
 bif xcm .eql xb xb then
 K .normal [.slo 0 0 np 0, .int .i64 m, .bool calm, .ptr 1 0, .slo 6 0 (xadd nl 2) 0, .slo 3 0 k 0, .int .i64 ↑i, .ptr 4 0, .int .i64 ↑k, .int .i64 w, .any, .any, .any, .any, .any, .any, .any, .any, .bool q] [some (.ro ks), some (.cells [.nils] none), some .dead, some (.cells os (some 1)), some (.cells [.int .i64 xw, .int .i64 xa, .int .i64 xb, .int .i64 xc, .int .u64 xn] none), some (.cells [.int .i64 (smO xw xa xb xc xn), .int .i64 (smA xw xa xb xc xn), .int .i64 (smB xw xa xb xc xn), .int .i64 (smC xw xa xb xc xn), .int .u64 (smN xw xa xb xc xn), .int .i64 13, .int .i64 (wthV xb 0 6), .int .i64 0, .int .i64 ↑nl, .int .u64 0] none), some (.cells (xcat (xcut ls 0 (xmul nl 5)) [.int .i64 (smO xw xa xb xc xn), .int .i64 (smA xw xa xb xc xn), .int .i64 (smB xw xa xb xc xn), .int .i64 (smC xw xa xb xc xn), .int .u64 (smN xw xa xb xc xn), .int .i64 13, .int .i64 (wthV xb 0 6), .int .i64 0, .int .i64 ↑nl, .int .u64 0]) (some 5))] []
 else False
 else False
 else False
 else False) := by kernel_rfl
theorem pa_9 (q : Bool) (np : Nat) (m : Int) (calm : Bool) (nl k i : Nat) (w : Int) (ks ls os : List LV) (xw xa xb xc xn : Int) (K : Pk) : (xcode Go.Proofs.Tryd.prog cxP 60 226 pgC9 (mkTm 226 ((190, .bool q) :: pgA np m calm nl k i w)) (mkS (pgJ ks ls os xw xa xb xc xn)) (vK pgL K)) = (
 bif xle (xadd nl 1) 1000000 then
 bif xle (xadd 0 (xmul nl 5)) (xln ls) then
 K .normal [.slo 0 0 np 0, .int .i64 m, .bool calm, .ptr 1 0, .slo 6 0 (xadd nl 1) 0, .slo 3 0 k 0, .int .i64 ↑i, .ptr 4 0, .int .i64 ↑k, .int .i64 w, .any, .any, .any, .any, .any, .any, .any, .any, .bool q] [some (.ro ks), some (.cells [.nils] none), some .dead, some (.cells os (some 1)), some (.cells [.int .i64 xw, .int .i64 xa, .int .i64 xb, .int .i64 xc, .int .u64 xn] none), some (.cells [.int .i64 (smO xw xa xb xc xn), .int .i64 (smA xw xa xb xc xn), .int .i64 (smB xw xa xb xc xn), .int .i64 (smC xw xa xb xc xn), .int .u64 (smN xw xa xb xc xn)] none), some (.cells (xcat (xcut ls 0 (xmul nl 5)) [.int .i64 (smO xw xa xb xc xn), .int .i64 (smA xw xa xb xc xn), .int .i64 (smB xw xa xb xc xn), .int .i64 (smC xw xa xb xc xn), .int .u64 (smN xw xa xb xc xn)]) (some 5))] []
 else False
 else False) := by kernel_rfl
theorem pg_n (np : Nat) (m : Int) (calm : Bool) (nl k i : Nat) (ks ls os : List LV) (K : Pk) : (xsp Go.Proofs.Tryd.prog cxP 60 226 (pgR.drop 3) (mkTm 226 (pgT np m calm nl k i)) (mkS (pgH ks ls os)) (vK pgL K)) = (
 K .normal [.slo 0 0 np 0, .int .i64 m, .bool calm, .ptr 1 0, .slo 2 0 nl 0, .slo 3 0 k 0, .int .i64 (xar .add .i64 (↑i) 1), .any, .any, .any, .any, .any, .any, .any, .any, .any, .any, .any, .any] [some (.ro ks), some (.cells [.nils] none), some (.cells ls (some 5)), some (.cells os (some 1))] []) := by kernel_rfl
theorem pg_c (nl k : Nat) (ks ls os : List LV) (K : Pk) : (xcode Go.Proofs.Tryd.prog cxP 60 226 (loopOf (nthC pgF 5)) (mkTm 226 (pgU nl k)) (mkS (pgH ks ls os)) (vK pgL K)) = (
 bif xcm .gtr (↑k) 0 then (
 bif xnn (xar .sub .i64 (↑k) 1) then
 bif xle (xadd (xnat (xar .sub .i64 (↑k) 1)) 1) k then
 bif xle (xadd (xix 0 (xnat (xar .sub .i64 (↑k) 1)) 1) 1) (xln os) then
 bif isI .i64 (nthD os (xix 0 (xnat (xar .sub .i64 (↑k) 1)) 1)) then
 bif xcm .eql (asI (nthD os (xix 0 (xnat (xar .sub .i64 (↑k) 1)) 1))) 14 then (
 bif xle (xadd nl 1) 1000000 then
 bif xle (xadd 0 (xmul nl 5)) (xln ls) then
 bif xnn (xar .sub .i64 (↑k) 1) then
 bif xle (xnat (xar .sub .i64 (↑k) 1)) k then
 K .normal [.any, .any, .any, .ptr 1 0, .slo 5 0 (xadd nl 1) 0, .slo 3 0 (xsub (xnat (xar .sub .i64 (↑k) 1)) 0) 0, .any, .any, .any, .any, .any, .any, .any, .any, .any, .any, .any, .any, .any] [some (.ro ks), some (.cells [.nils] none), some .dead, some (.cells os (some 1)), some (.cells [.int .i64 15, .int .i64 0, .int .i64 0, .int .i64 0, .int .u64 0] none), some (.cells (xcat (xcut ls 0 (xmul nl 5)) [.int .i64 15, .int .i64 0, .int .i64 0, .int .i64 0, .int .u64 0]) (some 5))] []
 else False
 else False
 else False
 else False)
 else (
 bif xcm .eql (asI (nthD os (xix 0 (xnat (xar .sub .i64 (↑k) 1)) 1))) 17 then (
 bif xnn (xar .sub .i64 (↑k) 1) then
 bif xle (xnat (xar .sub .i64 (↑k) 1)) k then
 bif xle (xadd 0 (xmul (xsub (xnat (xar .sub .i64 (↑k) 1)) 0) 1)) (xln os) then
 bif xz (xsub (xnat (xar .sub .i64 (↑k) 1)) 0) then (
 bif xle (xadd nl 1) 1000000 then
 bif xle (xadd 0 (xmul nl 5)) (xln ls) then
 K .normal [.any, .any, .any, .ptr 1 0, .slo 7 0 (xadd nl 1) 0, .slo 5 0 1 0, .any, .any, .any, .any, .any, .any, .any, .any, .any, .any, .any, .any, .any] [some (.ro ks), some (.cells [.nils] none), some .dead, some (.cells os (some 1)), some (.cells [.int .i64 18] none), some (.cells [.int .i64 18] (some 1)), some (.cells [.int .i64 18, .int .i64 0, .int .i64 0, .int .i64 0, .int .u64 0] none), some (.cells (xcat (xcut ls 0 (xmul nl 5)) [.int .i64 18, .int .i64 0, .int .i64 0, .int .i64 0, .int .u64 0]) (some 5))] []
 else False
 else False)
 else (
 bif xle (xsub (xnat (xar .sub .i64 (↑k) 1)) 0) 1000000 then
 bif xle (xadd (xsub (xnat (xar .sub .i64 (↑k) 1)) 0) 1) 1000000 then
 bif xle (xadd 0 (xmul (xsub (xnat (xar .sub .i64 (↑k) 1)) 0) 1)) (xln (xcut os 0 (xmul (xsub (xnat (xar .sub .i64 (↑k) 1)) 0) 1))) then
 bif xle (xadd nl 1) 1000000 then
 bif xle (xadd 0 (xmul nl 5)) (xln ls) then
 K .normal [.any, .any, .any, .ptr 1 0, .slo 8 0 (xadd nl 1) 0, .slo 6 0 (xadd (xsub (xnat (xar .sub .i64 (↑k) 1)) 0) 1) 0, .any, .any, .any, .any, .any, .any, .any, .any, .any, .any, .any, .any, .any] [some (.ro ks), some (.cells [.nils] none), some .dead, some (.cells os (some 1)), some .dead, some (.cells [.int .i64 18] none), some (.cells (xcat (xcut (xcut os 0 (xmul (xsub (xnat (xar .sub .i64 (↑k) 1)) 0) 1)) 0 (xmul (xsub (xnat (xar .sub .i64 (↑k) 1)) 0) 1)) [.int .i64 18]) (some 1)), some (.cells [.int .i64 18, .int .i64 0, .int .i64 0, .int .i64 0, .int .u64 0] none), some (.cells (xcat (xcut ls 0 (xmul nl 5)) [.int .i64 18, .int .i64 0, .int .i64 0, .int .i64 0, .int .u64 0]) (some 5))] []
 else False
 else False
 else False
 else False
 else False)
 else False
 else False
 else False)
 else (
 bif xle (xadd nl 1) 1000000 then
 bif xle (xadd 0 (xmul nl 5)) (xln ls) then
 bif xnn (xar .sub .i64 (↑k) 1) then
 bif xle (xnat (xar .sub .i64 (↑k) 1)) k then
 K .normal [.any, .any, .any, .ptr 1 0, .slo 5 0 (xadd nl 1) 0, .slo 3 0 (xsub (xnat (xar .sub .i64 (↑k) 1)) 0) 0, .any, .any, .any, .any, .any, .any, .any, .any, .any, .any, .any, .any, .any] [some (.ro ks), some (.cells [.nils] none), some .dead, some (.cells os (some 1)), some (.cells [.int .i64 19, .int .i64 0, .int .i64 0, .int .i64 0, .int .u64 0] none), some (.cells (xcat (xcut ls 0 (xmul nl 5)) [.int .i64 19, .int .i64 0, .int .i64 0, .int .i64 0, .int .u64 0]) (some 5))] []
 else False
 else False
 else False
 else False))
 else False
 else False
 else False
 else False)
 else (
 K (.exit 3) [.any, .any, .any, .ptr 1 0, .slo 2 0 nl 0, .slo 3 0 k 0, .any, .any, .any, .any, .any, .any, .any, .any, .any, .any, .any, .any, .any] [some (.ro ks), some (.cells [.nils] none), some (.cells ls (some 5)), some (.cells os (some 1))] [])) := by kernel_rfl
theorem pg_z (nl : Nat) (ks ls os : List LV) (K : Pk) : (xsp Go.Proofs.Tryd.prog cxP 60 226 (pgF.drop 6) (mkTm 226 (pgV nl)) (mkS (pgH ks ls os)) (vK pgL K)) = (
 bif xcm .eql (↑nl) 0 then (
 bif xle (xadd nl 1) 1000000 then
 bif xle (xadd 0 (xmul nl 5)) (xln ls) then
 K .ret [.any, .any, .any, .ptr 1 0, .slo 5 0 (xadd nl 1) 0, .any, .any, .any, .any, .any, .any, .any, .any, .any, .any, .any, .any, .any, .any] [some (.ro ks), some (.cells [.slo 5 0 (xadd nl 1) 0] none), some .dead, some (.cells os (some 1)), some (.cells [.int .i64 1, .int .i64 0, .int .i64 0, .int .i64 0, .int .u64 1] none), some (.cells (xcat (xcut ls 0 (xmul nl 5)) [.int .i64 1, .int .i64 0, .int .i64 0, .int .i64 0, .int .u64 1]) (some 5))] []
 else False
 else False)
 else (
 K .ret [.any, .any, .any, .ptr 1 0, .slo 2 0 nl 0, .any, .any, .any, .any, .any, .any, .any, .any, .any, .any, .any, .any, .any, .any] [some (.ro ks), some (.cells [.slo 2 0 nl 0] none), some (.cells ls (some 5)), some (.cells os (some 1))] [])) := by kernel_rfl
end
end Go.Lev
