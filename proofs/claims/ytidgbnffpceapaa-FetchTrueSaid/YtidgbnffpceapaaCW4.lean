/- FetchTrue: trees -/
import Derived.Test.YtidgbnffpceapaaCW1
import Derived.Test.YtidgbnffpceapaaLc
import Derived.Test.YtidgbnffpceapaaChecked
import Derived.KernelRfl

namespace Go.Lev
open Go.RowKit
set_option linter.unusedVariables false
set_option linter.unusedSimpArgs false
set_option maxRecDepth 100000
noncomputable section
def cxq : Cx := cxl [(3, runG), (9, tellG)]
abbrev ftL : List Nat := [0, 1, 2, 6, 7, 8, 9, 10, 11, 104]
theorem ft_a (n : Nat) (sm su : Int) (ax : List LV) (K : Pk) : (xsp Go.Proofs.Try.prog cxq 60 144 (seg (sp Go.Proofs.Try.prog 5) 0 10) (tm0 [.slo 0 0 n 0, .int .u8 sm, .int .u8 su]) (mkS [.ro ax]) (vK ftL K)) = (
  K .normal [.slo 0 0 n 0, .int .u8 sm, .int .u8 su, .bool false, .ptr 11 0, .ptr 13 0, .sl 14 0 1 1, .int .i64 0, .int .i64 0, .tup []] [some (.ro ax), some (.cells [.int .i64 32, .int .i64 1, .int .i64 1, .int .i64 2, .int .u64 0] none), some (.cells [.int .i64 32, .int .i64 1, .int .i64 0, .int .i64 2, .int .u64 0] none), some (.cells [.int .i64 32, .int .i64 1, .int .i64 1, .int .i64 2, .int .u64 0] none), some (.cells [.int .u64 0, .int .u64 0, .int .u64 0, .int .u64 0, .int .u64 0, .int .u64 0, .int .u64 0, .int .u64 0, .int .u64 0, .int .u64 0, .int .u64 0, .int .u64 0, .int .u64 0, .int .u64 0, .int .u64 0, .int .u64 0, .int .u64 0, .int .u64 0, .int .u64 0, .int .u64 0, .int .u64 0, .int .u64 0, .int .u64 0, .int .u64 0, .int .u64 0, .int .u64 0, .int .u64 0, .int .u64 0, .int .u64 0, .int .u64 0, .int .u64 0, .int .u64 0] none), some (.cells [.sl 4 0 32 32] none), some (.cells [.int .u64 0, .bool false, .int .i64 0] none), some (.cells [.int .i64 1, .sl 6 0 1 1] none), some (.cells [.int .u64 0] none), some (.cells [.int .u64 0, .int .u64 0] none), some (.cells [.sl 9 0 2 2] none), some (.cells [.int .i64 32, .int .i64 1, .int .i64 1, .int .i64 2, .int .u64 0, .ptr 5 0, .ptr 7 0, .ptr 8 0, .ptr 10 0, .int .i64 0] none), some (.cells [.int .i64 0, .int .i64 (xmn (xmx (xwr .i64 (xar .rem .u8 su 5)) 0) 4), .int .i64 0, .int .i64 (-1), .int .i64 0] none), some (.cells [.ptr 12 0, .int .i64 9, .int .i64 0, .int .u64 (xwr .u64 (xar .rem .u8 sm 6)), .int .i64 0, .int .u64 0, .bool false, .int .i64 0, .int .u64 0] none), some (.cells [.int .u64 0] none)] []) := by kernel_rfl
abbrev ftT (n : Nat) (sg su : Int) (k : Nat) (p : Int) (i : Nat) : List (Nat × LV) := [(0, .slo 0 0 n 0), (1, .int .u8 sg), (2, .int .u8 su), (7, .ptr 1 0), (8, .ptr 9 0), (9, .slo 11 0 k 0), (10, .int .i64 p), (11, .int .i64 i)]
abbrev ftH (ax ws : List LV) (v : Int) (h : Bool) (o C sm ph lv : Int) (lh : Bool) (lo wd sp en bu er : Int) (wa : List LV) : List LB := [.ro ax, .cells [.int .i64 32, .int .i64 1, .int .i64 1, .int .i64 2, .int .u64 0, .ptr 2 0, .ptr 4 0, .ptr 6 0, .ptr 7 0, .int .i64 C] none, .cells [.sl 3 0 32 32] none, .cells ws none, .cells [.int .i64 1, .sl 5 0 1 1] none, .cells [.int .u64 v, .bool h, .int .i64 o] none, .cells [.int .u64 0] none, .cells [.sl 8 0 2 2] none, .cells [.int .u64 0, .int .u64 0] none, .cells [.ptr 10 0, .int .i64 9, .int .i64 0, .int .u64 sm, .int .i64 ph, .int .u64 lv, .bool lh, .int .i64 lo, .int .u64 wd] none, .cells [.int .i64 0, .int .i64 sp, .int .i64 en, .int .i64 bu, .int .i64 er] none, .cells wa (some 1)]
theorem ft_b (n : Nat) (sg s8 : Int) (k : Nat) (p : Int) (i : Nat) (ax ws : List LV) (v : Int) (h : Bool) (o C sm ph lv : Int) (lh : Bool) (lo wd su en bu er : Int) (wa : List LV) (K : Pk) : (xcode Go.Proofs.Try.prog cxq 60 144 (loopOf (nthC (sp Go.Proofs.Try.prog 5) 10)) (mkTm 144 (ftT n sg s8 k p i)) (mkS (ftH ax ws v h o C sm ph lv lh lo wd su en bu er wa)) (vK ftL K)) = (
  bif xcm .lss ↑i ↑n then (
   bif xcm .lss (↑i) 60 then (
    bif xle (xadd (xnat ↑i) 1) n then
    bif xle (xadd (xix 0 (xnat ↑i) 2) 1) (xln ax) then
    bif isB (nthD ax (xix 0 (xnat ↑i) 2)) then
    bif asB (nthD ax (xix 0 (xnat ↑i) 2)) then (
     bif xnot (xcm .eql en 0) then (
      K .normal [.slo 0 0 n 0, .int .u8 sg, .int .u8 s8, .any, .ptr 1 0, .ptr 9 0, .slo 11 0 k 0, .int .i64 p, .int .i64 (xar .add .i64 (↑i) 1), .any] [some (.ro ax), some (.cells [.int .i64 32, .int .i64 1, .int .i64 1, .int .i64 2, .int .u64 0, .ptr 2 0, .ptr 4 0, .ptr 6 0, .ptr 7 0, .int .i64 C] none), some (.cells [.sl 3 0 32 32] none), some (.cells ws none), some (.cells [.int .i64 1, .sl 5 0 1 1] none), some (.cells [.int .u64 v, .bool h, .int .i64 o] none), some (.cells [.int .u64 0] none), some (.cells [.sl 8 0 2 2] none), some (.cells [.int .u64 0, .int .u64 0] none), some (.cells [.ptr 10 0, .int .i64 9, .int .i64 0, .int .u64 sm, .int .i64 ph, .int .u64 lv, .bool lh, .int .i64 lo, .int .u64 wd] none), some (.cells [.int .i64 0, .int .i64 su, .int .i64 en, .int .i64 bu, .int .i64 er] none), some (.cells wa (some 1)), some (.cells [.int .i64 0, .int .i64 0, .int .u64 0, .int .u64 0, .int .u64 0, .bool false, .int .i64 0, .int .u64 0, .bool false, .int .i64 0] none), some (.cells [.int .i64 0, .int .i64 0, .int .u64 0, .int .u64 0, .int .u64 0, .bool false, .int .i64 0, .int .u64 0, .bool false, .int .i64 0] none)] [])
     else (
      bif xcm .eql ph 1 then (
       bif xle 10 (xln ws) then
       bif isI .u64 (nthD ws 9) then
       bif okF ph su en bu er then
       K .normal [.slo 0 0 n 0, .int .u8 sg, .int .u8 s8, .any, .ptr 1 0, .ptr 9 0, .slo 11 0 k 0, .int .i64 p, .int .i64 (xar .add .i64 (↑i) 1), .any] [some (.ro ax), some (.cells [.int .i64 32, .int .i64 1, .int .i64 1, .int .i64 2, .int .u64 0, .ptr 2 0, .ptr 4 0, .ptr 6 0, .ptr 7 0, .int .i64 (xar .add .i64 C 1)] none), some (.cells [.sl 3 0 32 32] none), some (.cells ws none), some (.cells [.int .i64 1, .sl 5 0 1 1] none), some (.cells [.int .u64 v, .bool h, .int .i64 o] none), some (.cells [.int .u64 0] none), some (.cells [.sl 8 0 2 2] none), some (.cells [.int .u64 0, .int .u64 0] none), some (.cells [.ptr 10 0, .int .i64 9, .int .i64 0, .int .u64 sm, .int .i64 (fPh 0 sm ph lv lh lo wd su en bu er (asI (nthD ws 9)) 0 false 0 0), .int .u64 (fLv 0 sm ph lv lh lo wd su en bu er (asI (nthD ws 9)) 0 false 0 0), .bool (fLh 0 sm ph lv lh lo wd su en bu er (asI (nthD ws 9)) 0 false 0 0), .int .i64 (fLo 0 sm ph lv lh lo wd su en bu er (asI (nthD ws 9)) 0 false 0 0), .int .u64 (fWd 0 sm ph lv lh lo wd su en bu er (asI (nthD ws 9)) 0 false 0 0)] none), some (.cells [.int .i64 0, .int .i64 (fSp 0 sm ph lv lh lo wd su en bu er (asI (nthD ws 9)) 0 false 0 0), .int .i64 (fEn 0 sm ph lv lh lo wd su en bu er (asI (nthD ws 9)) 0 false 0 0), .int .i64 (fBu 0 sm ph lv lh lo wd su en bu er (asI (nthD ws 9)) 0 false 0 0), .int .i64 (fEr 0 sm ph lv lh lo wd su en bu er (asI (nthD ws 9)) 0 false 0 0)] none), some (.cells wa (some 1)), some (.cells [.int .i64 1, .int .i64 9, .int .u64 0, .int .u64 0, .int .u64 0, .bool false, .int .i64 0, .int .u64 0, .bool false, .int .i64 0] none), some (.cells [.int .i64 1, .int .i64 9, .int .u64 0, .int .u64 0, .int .u64 0, .bool false, .int .i64 0, .int .u64 0, .bool false, .int .i64 0] none), some (.cells [.int .i64 1, .int .i64 9, .int .u64 0, .int .u64 0, .int .u64 0, .bool false, .int .i64 0, .int .u64 0, .bool false, .int .i64 0] none), some (.cells [.int .u64 (asI (nthD ws 9)), .int .u64 0, .bool false, .int .i64 0, .bool false, .int .i64 0] none), some (.cells [.int .i64 1, .int .i64 9, .int .u64 0, .int .u64 0, .int .u64 0, .bool false, .int .i64 0, .int .u64 0, .bool false, .int .i64 0] none), some (.cells [.int .u64 (asI (nthD ws 9)), .int .u64 0, .bool false, .int .i64 0, .bool false, .int .i64 0] none), some (.cells [.int .u64 (asI (nthD ws 9)), .int .u64 0, .bool false, .int .i64 0, .bool false, .int .i64 0] none), some (.cells [.int .u64 (asI (nthD ws 9)), .int .u64 0, .bool false, .int .i64 0, .bool false, .int .i64 0] none)] []
       else False
       else False
       else False)
      else (
       bif okF ph su en bu er then
       K .normal [.slo 0 0 n 0, .int .u8 sg, .int .u8 s8, .any, .ptr 1 0, .ptr 9 0, .slo 11 0 k 0, .int .i64 p, .int .i64 (xar .add .i64 (↑i) 1), .any] [some (.ro ax), some (.cells [.int .i64 32, .int .i64 1, .int .i64 1, .int .i64 2, .int .u64 0, .ptr 2 0, .ptr 4 0, .ptr 6 0, .ptr 7 0, .int .i64 (xar .add .i64 C 1)] none), some (.cells [.sl 3 0 32 32] none), some (.cells ws none), some (.cells [.int .i64 1, .sl 5 0 1 1] none), some (.cells [.int .u64 v, .bool h, .int .i64 o] none), some (.cells [.int .u64 0] none), some (.cells [.sl 8 0 2 2] none), some (.cells [.int .u64 0, .int .u64 0] none), some (.cells [.ptr 10 0, .int .i64 9, .int .i64 0, .int .u64 sm, .int .i64 (fPh 0 sm ph lv lh lo wd su en bu er 0 v h o 0), .int .u64 (fLv 0 sm ph lv lh lo wd su en bu er 0 v h o 0), .bool (fLh 0 sm ph lv lh lo wd su en bu er 0 v h o 0), .int .i64 (fLo 0 sm ph lv lh lo wd su en bu er 0 v h o 0), .int .u64 (fWd 0 sm ph lv lh lo wd su en bu er 0 v h o 0)] none), some (.cells [.int .i64 0, .int .i64 (fSp 0 sm ph lv lh lo wd su en bu er 0 v h o 0), .int .i64 (fEn 0 sm ph lv lh lo wd su en bu er 0 v h o 0), .int .i64 (fBu 0 sm ph lv lh lo wd su en bu er 0 v h o 0), .int .i64 (fEr 0 sm ph lv lh lo wd su en bu er 0 v h o 0)] none), some (.cells wa (some 1)), some (.cells [.int .i64 3, .int .i64 0, .int .u64 0, .int .u64 0, .int .u64 0, .bool false, .int .i64 0, .int .u64 0, .bool false, .int .i64 0] none), some (.cells [.int .i64 3, .int .i64 0, .int .u64 0, .int .u64 0, .int .u64 0, .bool false, .int .i64 0, .int .u64 0, .bool false, .int .i64 0] none), some (.cells [.int .i64 3, .int .i64 0, .int .u64 0, .int .u64 0, .int .u64 0, .bool false, .int .i64 0, .int .u64 0, .bool false, .int .i64 0] none), some (.cells [.int .u64 0, .int .u64 v, .bool h, .int .i64 o, .bool false, .int .i64 0] none), some (.cells [.int .i64 3, .int .i64 0, .int .u64 0, .int .u64 0, .int .u64 0, .bool false, .int .i64 0, .int .u64 0, .bool false, .int .i64 0] none), some (.cells [.int .u64 0, .int .u64 v, .bool h, .int .i64 o, .bool false, .int .i64 0] none), some (.cells [.int .u64 0, .int .u64 v, .bool h, .int .i64 o, .bool false, .int .i64 0] none), some (.cells [.int .u64 v, .bool h, .int .i64 o] none), some (.cells [.int .u64 0, .int .u64 v, .bool h, .int .i64 o, .bool false, .int .i64 0] none)] []
       else False)))
    else (
     bif xcm .eql p 0 then (
      bif xcm .geq (xwr .u64 (xar .sub .i64 (↑k) 1)) 4611686018427387904 then (
       K .normal [.slo 0 0 n 0, .int .u8 sg, .int .u8 s8, .any, .ptr 1 0, .ptr 9 0, .slo 11 0 k 0, .int .i64 (xar .rem .i64 (xar .add .i64 p 1) 3), .int .i64 (xar .add .i64 (↑i) 1), .any] [some (.ro ax), some (.cells [.int .i64 32, .int .i64 1, .int .i64 1, .int .i64 2, .int .u64 0, .ptr 2 0, .ptr 4 0, .ptr 6 0, .ptr 7 0, .int .i64 C] none), some (.cells [.sl 3 0 32 32] none), some (.cells ws none), some (.cells [.int .i64 1, .sl 5 0 1 1] none), some (.cells [.int .u64 v, .bool h, .int .i64 o] none), some (.cells [.int .u64 0] none), some (.cells [.sl 8 0 2 2] none), some (.cells [.int .u64 0, .int .u64 0] none), some (.cells [.ptr 10 0, .int .i64 9, .int .i64 0, .int .u64 sm, .int .i64 ph, .int .u64 lv, .bool lh, .int .i64 lo, .int .u64 wd] none), some (.cells [.int .i64 0, .int .i64 su, .int .i64 en, .int .i64 bu, .int .i64 er] none), some (.cells wa (some 1)), some (.cells [.int .i64 5, .int .i64 0, .int .u64 0, .int .u64 0, .int .u64 0, .bool false, .int .i64 0, .int .u64 (xwr .u64 (xar .sub .i64 (↑k) 1)), .bool true, .int .i64 1] none), some (.cells [.int .u64 0, .int .u64 0, .bool false, .int .i64 0, .bool false, .int .i64 1] none), some (.cells [.int .i64 5, .int .i64 0, .int .u64 0, .int .u64 0, .int .u64 0, .bool false, .int .i64 0, .int .u64 (xwr .u64 (xar .sub .i64 (↑k) 1)), .bool true, .int .i64 1] none), some (.cells [.int .u64 0, .int .u64 0, .bool false, .int .i64 0, .bool false, .int .i64 1] none), some (.cells [.int .u64 0, .int .u64 0, .bool false, .int .i64 0, .bool false, .int .i64 1] none), some (.cells [.int .u64 (xwr .u64 (xar .sub .i64 (↑k) 1)), .bool true, .int .i64 1] none), some (.cells [.int .u64 (xwr .u64 (xar .sub .i64 (↑k) 1)), .bool true, .int .i64 1] none), some (.cells [.int .u64 (xwr .u64 (xar .sub .i64 (↑k) 1)), .bool true, .int .i64 1] none), some (.cells [.int .u64 0, .int .u64 0, .bool false, .int .i64 0, .bool false, .int .i64 1] none)] [])
      else (
       K .normal [.slo 0 0 n 0, .int .u8 sg, .int .u8 s8, .any, .ptr 1 0, .ptr 9 0, .slo 11 0 k 0, .int .i64 (xar .rem .i64 (xar .add .i64 p 1) 3), .int .i64 (xar .add .i64 (↑i) 1), .any] [some (.ro ax), some (.cells [.int .i64 32, .int .i64 1, .int .i64 1, .int .i64 2, .int .u64 0, .ptr 2 0, .ptr 4 0, .ptr 6 0, .ptr 7 0, .int .i64 (xar .add .i64 C 1)] none), some (.cells [.sl 3 0 32 32] none), some (.cells ws none), some (.cells [.int .i64 1, .sl 5 0 1 1] none), some (.cells [.int .u64 (xwr .u64 (xar .sub .i64 (↑k) 1)), .bool true, .int .i64 1] none), some (.cells [.int .u64 0] none), some (.cells [.sl 8 0 2 2] none), some (.cells [.int .u64 0, .int .u64 0] none), some (.cells [.ptr 10 0, .int .i64 9, .int .i64 0, .int .u64 sm, .int .i64 ph, .int .u64 lv, .bool lh, .int .i64 lo, .int .u64 wd] none), some (.cells [.int .i64 0, .int .i64 su, .int .i64 en, .int .i64 bu, .int .i64 er] none), some (.cells wa (some 1)), some (.cells [.int .i64 5, .int .i64 0, .int .u64 0, .int .u64 0, .int .u64 0, .bool false, .int .i64 0, .int .u64 (xwr .u64 (xar .sub .i64 (↑k) 1)), .bool true, .int .i64 1] none), some (.cells [.int .u64 0, .int .u64 0, .bool false, .int .i64 0, .bool false, .int .i64 0] none), some (.cells [.int .i64 5, .int .i64 0, .int .u64 0, .int .u64 0, .int .u64 0, .bool false, .int .i64 0, .int .u64 (xwr .u64 (xar .sub .i64 (↑k) 1)), .bool true, .int .i64 1] none), some (.cells [.int .u64 0, .int .u64 0, .bool false, .int .i64 0, .bool false, .int .i64 0] none), some (.cells [.int .u64 0, .int .u64 0, .bool false, .int .i64 0, .bool false, .int .i64 0] none), some (.cells [.int .u64 (xwr .u64 (xar .sub .i64 (↑k) 1)), .bool true, .int .i64 1] none), some (.cells [.int .u64 (xwr .u64 (xar .sub .i64 (↑k) 1)), .bool true, .int .i64 1] none), some (.cells [.int .u64 (xwr .u64 (xar .sub .i64 (↑k) 1)), .bool true, .int .i64 1] none), some (.cells [.int .u64 0, .int .u64 0, .bool false, .int .i64 0, .bool false, .int .i64 0] none)] []))
     else (
      bif xcm .eql p 1 then (
       bif xle (xadd (xnat ↑i) 1) n then
       bif xle (xadd (xadd (xix 0 (xnat ↑i) 2) 1) 1) (xln ax) then
       bif isB (nthD ax (xadd (xix 0 (xnat ↑i) 2) 1)) then
       bif asB (nthD ax (xadd (xix 0 (xnat ↑i) 2) 1)) then (
        bif xcm .geq (xwr .u64 (xar .sub .i64 (↑k) 1)) 4611686018427387904 then (
         K .normal [.slo 0 0 n 0, .int .u8 sg, .int .u8 s8, .any, .ptr 1 0, .ptr 9 0, .slo 11 0 k 0, .int .i64 0, .int .i64 (xar .add .i64 (↑i) 1), .any] [some (.ro ax), some (.cells [.int .i64 32, .int .i64 1, .int .i64 1, .int .i64 2, .int .u64 0, .ptr 2 0, .ptr 4 0, .ptr 6 0, .ptr 7 0, .int .i64 C] none), some (.cells [.sl 3 0 32 32] none), some (.cells ws none), some (.cells [.int .i64 1, .sl 5 0 1 1] none), some (.cells [.int .u64 v, .bool h, .int .i64 o] none), some (.cells [.int .u64 0] none), some (.cells [.sl 8 0 2 2] none), some (.cells [.int .u64 0, .int .u64 0] none), some (.cells [.ptr 10 0, .int .i64 9, .int .i64 0, .int .u64 sm, .int .i64 ph, .int .u64 lv, .bool lh, .int .i64 lo, .int .u64 wd] none), some (.cells [.int .i64 0, .int .i64 su, .int .i64 en, .int .i64 bu, .int .i64 er] none), some (.cells wa (some 1)), some (.cells [.int .i64 5, .int .i64 0, .int .u64 0, .int .u64 0, .int .u64 0, .bool false, .int .i64 0, .int .u64 (xwr .u64 (xar .sub .i64 (↑k) 1)), .bool false, .int .i64 0] none), some (.cells [.int .u64 0, .int .u64 0, .bool false, .int .i64 0, .bool false, .int .i64 1] none), some (.cells [.int .i64 5, .int .i64 0, .int .u64 0, .int .u64 0, .int .u64 0, .bool false, .int .i64 0, .int .u64 (xwr .u64 (xar .sub .i64 (↑k) 1)), .bool false, .int .i64 0] none), some (.cells [.int .u64 0, .int .u64 0, .bool false, .int .i64 0, .bool false, .int .i64 1] none), some (.cells [.int .u64 0, .int .u64 0, .bool false, .int .i64 0, .bool false, .int .i64 1] none), some (.cells [.int .u64 (xwr .u64 (xar .sub .i64 (↑k) 1)), .bool false, .int .i64 0] none), some (.cells [.int .u64 (xwr .u64 (xar .sub .i64 (↑k) 1)), .bool false, .int .i64 0] none), some (.cells [.int .u64 (xwr .u64 (xar .sub .i64 (↑k) 1)), .bool false, .int .i64 0] none), some (.cells [.int .u64 0, .int .u64 0, .bool false, .int .i64 0, .bool false, .int .i64 1] none)] [])
        else (
         K .normal [.slo 0 0 n 0, .int .u8 sg, .int .u8 s8, .any, .ptr 1 0, .ptr 9 0, .slo 11 0 k 0, .int .i64 0, .int .i64 (xar .add .i64 (↑i) 1), .any] [some (.ro ax), some (.cells [.int .i64 32, .int .i64 1, .int .i64 1, .int .i64 2, .int .u64 0, .ptr 2 0, .ptr 4 0, .ptr 6 0, .ptr 7 0, .int .i64 (xar .add .i64 C 1)] none), some (.cells [.sl 3 0 32 32] none), some (.cells ws none), some (.cells [.int .i64 1, .sl 5 0 1 1] none), some (.cells [.int .u64 (xwr .u64 (xar .sub .i64 (↑k) 1)), .bool false, .int .i64 0] none), some (.cells [.int .u64 0] none), some (.cells [.sl 8 0 2 2] none), some (.cells [.int .u64 0, .int .u64 0] none), some (.cells [.ptr 10 0, .int .i64 9, .int .i64 0, .int .u64 sm, .int .i64 ph, .int .u64 lv, .bool lh, .int .i64 lo, .int .u64 wd] none), some (.cells [.int .i64 0, .int .i64 su, .int .i64 en, .int .i64 bu, .int .i64 er] none), some (.cells wa (some 1)), some (.cells [.int .i64 5, .int .i64 0, .int .u64 0, .int .u64 0, .int .u64 0, .bool false, .int .i64 0, .int .u64 (xwr .u64 (xar .sub .i64 (↑k) 1)), .bool false, .int .i64 0] none), some (.cells [.int .u64 0, .int .u64 0, .bool false, .int .i64 0, .bool false, .int .i64 0] none), some (.cells [.int .i64 5, .int .i64 0, .int .u64 0, .int .u64 0, .int .u64 0, .bool false, .int .i64 0, .int .u64 (xwr .u64 (xar .sub .i64 (↑k) 1)), .bool false, .int .i64 0] none), some (.cells [.int .u64 0, .int .u64 0, .bool false, .int .i64 0, .bool false, .int .i64 0] none), some (.cells [.int .u64 0, .int .u64 0, .bool false, .int .i64 0, .bool false, .int .i64 0] none), some (.cells [.int .u64 (xwr .u64 (xar .sub .i64 (↑k) 1)), .bool false, .int .i64 0] none), some (.cells [.int .u64 (xwr .u64 (xar .sub .i64 (↑k) 1)), .bool false, .int .i64 0] none), some (.cells [.int .u64 (xwr .u64 (xar .sub .i64 (↑k) 1)), .bool false, .int .i64 0] none), some (.cells [.int .u64 0, .int .u64 0, .bool false, .int .i64 0, .bool false, .int .i64 0] none)] []))
       else (
        bif xle 10 (xln ws) then
        K .normal [.slo 0 0 n 0, .int .u8 sg, .int .u8 s8, .any, .ptr 1 0, .ptr 9 0, .slo 11 0 k 0, .int .i64 (xar .rem .i64 (xar .add .i64 p 1) 3), .int .i64 (xar .add .i64 (↑i) 1), .any] [some (.ro ax), some (.cells [.int .i64 32, .int .i64 1, .int .i64 1, .int .i64 2, .int .u64 0, .ptr 2 0, .ptr 4 0, .ptr 6 0, .ptr 7 0, .int .i64 (xar .add .i64 C 1)] none), some (.cells [.sl 3 0 32 32] none), some (.cells (xlay ws 9 [.int .u64 (xar .add .u64 100 (xwr .u64 (xar .sub .i64 (↑k) 1)))]) none), some (.cells [.int .i64 1, .sl 5 0 1 1] none), some (.cells [.int .u64 v, .bool h, .int .i64 o] none), some (.cells [.int .u64 0] none), some (.cells [.sl 8 0 2 2] none), some (.cells [.int .u64 0, .int .u64 0] none), some (.cells [.ptr 10 0, .int .i64 9, .int .i64 0, .int .u64 sm, .int .i64 ph, .int .u64 lv, .bool lh, .int .i64 lo, .int .u64 wd] none), some (.cells [.int .i64 0, .int .i64 su, .int .i64 en, .int .i64 bu, .int .i64 er] none), some (.cells wa (some 1)), some (.cells [.int .i64 2, .int .i64 9, .int .u64 0, .int .u64 (xar .add .u64 100 (xwr .u64 (xar .sub .i64 (↑k) 1))), .int .u64 0, .bool false, .int .i64 0, .int .u64 0, .bool false, .int .i64 0] none), some (.cells [.int .u64 0, .int .u64 0, .bool false, .int .i64 0, .bool false, .int .i64 0] none), some (.cells [.int .i64 2, .int .i64 9, .int .u64 0, .int .u64 (xar .add .u64 100 (xwr .u64 (xar .sub .i64 (↑k) 1))), .int .u64 0, .bool false, .int .i64 0, .int .u64 0, .bool false, .int .i64 0] none), some (.cells [.int .u64 0, .int .u64 0, .bool false, .int .i64 0, .bool false, .int .i64 0] none), some (.cells [.int .u64 0, .int .u64 0, .bool false, .int .i64 0, .bool false, .int .i64 0] none), some (.cells [.int .u64 0, .int .u64 0, .bool false, .int .i64 0, .bool false, .int .i64 0] none)] []
        else False)
       else False
       else False
       else False)
      else (
       bif xcm .geq (xar .add .u64 (xwr .u64 (xar .sub .i64 (↑k) 1)) 1) 4611686018427387904 then (
        bif xle (xadd k 1) 1000000 then
        bif xle (xadd 0 (xmul k 1)) (xln wa) then
        K .normal [.slo 0 0 n 0, .int .u8 sg, .int .u8 s8, .any, .ptr 1 0, .ptr 9 0, .slo 22 0 (xadd k 1) 0, .int .i64 (xar .rem .i64 (xar .add .i64 p 1) 3), .int .i64 (xar .add .i64 (↑i) 1), .any] [some (.ro ax), some (.cells [.int .i64 32, .int .i64 1, .int .i64 1, .int .i64 2, .int .u64 0, .ptr 2 0, .ptr 4 0, .ptr 6 0, .ptr 7 0, .int .i64 C] none), some (.cells [.sl 3 0 32 32] none), some (.cells ws none), some (.cells [.int .i64 1, .sl 5 0 1 1] none), some (.cells [.int .u64 v, .bool h, .int .i64 o] none), some (.cells [.int .u64 0] none), some (.cells [.sl 8 0 2 2] none), some (.cells [.int .u64 0, .int .u64 0] none), some (.cells [.ptr 10 0, .int .i64 9, .int .i64 0, .int .u64 sm, .int .i64 ph, .int .u64 lv, .bool lh, .int .i64 lo, .int .u64 wd] none), some (.cells [.int .i64 0, .int .i64 su, .int .i64 en, .int .i64 bu, .int .i64 er] none), some .dead, some (.cells [.int .i64 5, .int .i64 0, .int .u64 0, .int .u64 0, .int .u64 0, .bool false, .int .i64 0, .int .u64 (xar .add .u64 (xwr .u64 (xar .sub .i64 (↑k) 1)) 1), .bool false, .int .i64 0] none), some (.cells [.int .u64 0, .int .u64 0, .bool false, .int .i64 0, .bool false, .int .i64 1] none), some (.cells [.int .i64 5, .int .i64 0, .int .u64 0, .int .u64 0, .int .u64 0, .bool false, .int .i64 0, .int .u64 (xar .add .u64 (xwr .u64 (xar .sub .i64 (↑k) 1)) 1), .bool false, .int .i64 0] none), some (.cells [.int .u64 0, .int .u64 0, .bool false, .int .i64 0, .bool false, .int .i64 1] none), some (.cells [.int .u64 0, .int .u64 0, .bool false, .int .i64 0, .bool false, .int .i64 1] none), some (.cells [.int .u64 (xar .add .u64 (xwr .u64 (xar .sub .i64 (↑k) 1)) 1), .bool false, .int .i64 0] none), some (.cells [.int .u64 (xar .add .u64 (xwr .u64 (xar .sub .i64 (↑k) 1)) 1), .bool false, .int .i64 0] none), some (.cells [.int .u64 (xar .add .u64 (xwr .u64 (xar .sub .i64 (↑k) 1)) 1), .bool false, .int .i64 0] none), some (.cells [.int .u64 0, .int .u64 0, .bool false, .int .i64 0, .bool false, .int .i64 1] none), some (.cells [.int .u64 (xar .add .u64 100 (xwr .u64 (xar .sub .i64 (↑k) 1)))] none), some (.cells (xcat (xcut wa 0 (xmul k 1)) [.int .u64 (xar .add .u64 100 (xwr .u64 (xar .sub .i64 (↑k) 1)))]) (some 1))] []
        else False
        else False)
       else (
        bif xle (xadd k 1) 1000000 then
        bif xle (xadd 0 (xmul k 1)) (xln wa) then
        K .normal [.slo 0 0 n 0, .int .u8 sg, .int .u8 s8, .any, .ptr 1 0, .ptr 9 0, .slo 22 0 (xadd k 1) 0, .int .i64 (xar .rem .i64 (xar .add .i64 p 1) 3), .int .i64 (xar .add .i64 (↑i) 1), .any] [some (.ro ax), some (.cells [.int .i64 32, .int .i64 1, .int .i64 1, .int .i64 2, .int .u64 0, .ptr 2 0, .ptr 4 0, .ptr 6 0, .ptr 7 0, .int .i64 (xar .add .i64 C 1)] none), some (.cells [.sl 3 0 32 32] none), some (.cells ws none), some (.cells [.int .i64 1, .sl 5 0 1 1] none), some (.cells [.int .u64 (xar .add .u64 (xwr .u64 (xar .sub .i64 (↑k) 1)) 1), .bool false, .int .i64 0] none), some (.cells [.int .u64 0] none), some (.cells [.sl 8 0 2 2] none), some (.cells [.int .u64 0, .int .u64 0] none), some (.cells [.ptr 10 0, .int .i64 9, .int .i64 0, .int .u64 sm, .int .i64 ph, .int .u64 lv, .bool lh, .int .i64 lo, .int .u64 wd] none), some (.cells [.int .i64 0, .int .i64 su, .int .i64 en, .int .i64 bu, .int .i64 er] none), some .dead, some (.cells [.int .i64 5, .int .i64 0, .int .u64 0, .int .u64 0, .int .u64 0, .bool false, .int .i64 0, .int .u64 (xar .add .u64 (xwr .u64 (xar .sub .i64 (↑k) 1)) 1), .bool false, .int .i64 0] none), some (.cells [.int .u64 0, .int .u64 0, .bool false, .int .i64 0, .bool false, .int .i64 0] none), some (.cells [.int .i64 5, .int .i64 0, .int .u64 0, .int .u64 0, .int .u64 0, .bool false, .int .i64 0, .int .u64 (xar .add .u64 (xwr .u64 (xar .sub .i64 (↑k) 1)) 1), .bool false, .int .i64 0] none), some (.cells [.int .u64 0, .int .u64 0, .bool false, .int .i64 0, .bool false, .int .i64 0] none), some (.cells [.int .u64 0, .int .u64 0, .bool false, .int .i64 0, .bool false, .int .i64 0] none), some (.cells [.int .u64 (xar .add .u64 (xwr .u64 (xar .sub .i64 (↑k) 1)) 1), .bool false, .int .i64 0] none), some (.cells [.int .u64 (xar .add .u64 (xwr .u64 (xar .sub .i64 (↑k) 1)) 1), .bool false, .int .i64 0] none), some (.cells [.int .u64 (xar .add .u64 (xwr .u64 (xar .sub .i64 (↑k) 1)) 1), .bool false, .int .i64 0] none), some (.cells [.int .u64 0, .int .u64 0, .bool false, .int .i64 0, .bool false, .int .i64 0] none), some (.cells [.int .u64 (xar .add .u64 100 (xwr .u64 (xar .sub .i64 (↑k) 1)))] none), some (.cells (xcat (xcut wa 0 (xmul k 1)) [.int .u64 (xar .add .u64 100 (xwr .u64 (xar .sub .i64 (↑k) 1)))]) (some 1))] []
        else False
        else False))))
    else False
    else False
    else False)
   else (
    K (.exit 0) [.slo 0 0 n 0, .int .u8 sg, .int .u8 s8, .any, .ptr 1 0, .ptr 9 0, .slo 11 0 k 0, .int .i64 p, .int .i64 ↑i, .any] [some (.ro ax), some (.cells [.int .i64 32, .int .i64 1, .int .i64 1, .int .i64 2, .int .u64 0, .ptr 2 0, .ptr 4 0, .ptr 6 0, .ptr 7 0, .int .i64 C] none), some (.cells [.sl 3 0 32 32] none), some (.cells ws none), some (.cells [.int .i64 1, .sl 5 0 1 1] none), some (.cells [.int .u64 v, .bool h, .int .i64 o] none), some (.cells [.int .u64 0] none), some (.cells [.sl 8 0 2 2] none), some (.cells [.int .u64 0, .int .u64 0] none), some (.cells [.ptr 10 0, .int .i64 9, .int .i64 0, .int .u64 sm, .int .i64 ph, .int .u64 lv, .bool lh, .int .i64 lo, .int .u64 wd] none), some (.cells [.int .i64 0, .int .i64 su, .int .i64 en, .int .i64 bu, .int .i64 er] none), some (.cells wa (some 1))] []))
  else (
   K (.exit 0) [.slo 0 0 n 0, .int .u8 sg, .int .u8 s8, .any, .ptr 1 0, .ptr 9 0, .slo 11 0 k 0, .int .i64 p, .int .i64 ↑i, .any] [some (.ro ax), some (.cells [.int .i64 32, .int .i64 1, .int .i64 1, .int .i64 2, .int .u64 0, .ptr 2 0, .ptr 4 0, .ptr 6 0, .ptr 7 0, .int .i64 C] none), some (.cells [.sl 3 0 32 32] none), some (.cells ws none), some (.cells [.int .i64 1, .sl 5 0 1 1] none), some (.cells [.int .u64 v, .bool h, .int .i64 o] none), some (.cells [.int .u64 0] none), some (.cells [.sl 8 0 2 2] none), some (.cells [.int .u64 0, .int .u64 0] none), some (.cells [.ptr 10 0, .int .i64 9, .int .i64 0, .int .u64 sm, .int .i64 ph, .int .u64 lv, .bool lh, .int .i64 lo, .int .u64 wd] none), some (.cells [.int .i64 0, .int .i64 su, .int .i64 en, .int .i64 bu, .int .i64 er] none), some (.cells wa (some 1))] [])) := by kernel_rfl
theorem ft_z (n : Nat) (sg s8 : Int) (k : Nat) (p : Int) (i : Nat) (ax ws : List LV) (v : Int) (h : Bool) (o C sm ph lv : Int) (lh : Bool) (lo wd su en bu er : Int) (wa : List LV) (K : Pk) : (xsp Go.Proofs.Try.prog cxq 60 144 ((sp Go.Proofs.Try.prog 5).drop 11) (mkTm 144 (ftT n sg s8 k p i)) (mkS (ftH ax ws v h o C sm ph lv lh lo wd su en bu er wa)) (vK ftL K)) = (
  bif xcm .eql en 0 then (
   bif xcm .eql en 0 then (
    bif xcm .neq en 2 then (
     K .ret [.slo 0 0 n 0, .int .u8 sg, .int .u8 s8, .bool true, .ptr 1 0, .ptr 9 0, .slo 11 0 k 0, .int .i64 p, .int .i64 ↑i, .int .i64 en] [some (.ro ax), some (.cells [.int .i64 32, .int .i64 1, .int .i64 1, .int .i64 2, .int .u64 0, .ptr 2 0, .ptr 4 0, .ptr 6 0, .ptr 7 0, .int .i64 C] none), some (.cells [.sl 3 0 32 32] none), some (.cells ws none), some (.cells [.int .i64 1, .sl 5 0 1 1] none), some (.cells [.int .u64 v, .bool h, .int .i64 o] none), some (.cells [.int .u64 0] none), some (.cells [.sl 8 0 2 2] none), some (.cells [.int .u64 0, .int .u64 0] none), some (.cells [.ptr 10 0, .int .i64 9, .int .i64 0, .int .u64 sm, .int .i64 ph, .int .u64 lv, .bool lh, .int .i64 lo, .int .u64 wd] none), some (.cells [.int .i64 0, .int .i64 su, .int .i64 en, .int .i64 bu, .int .i64 er] none), some (.cells wa (some 1))] [])
    else (
     K .ret [.slo 0 0 n 0, .int .u8 sg, .int .u8 s8, .bool (xcm .eql wd 0), .ptr 1 0, .ptr 9 0, .slo 11 0 k 0, .int .i64 p, .int .i64 ↑i, .int .i64 en] [some (.ro ax), some (.cells [.int .i64 32, .int .i64 1, .int .i64 1, .int .i64 2, .int .u64 0, .ptr 2 0, .ptr 4 0, .ptr 6 0, .ptr 7 0, .int .i64 C] none), some (.cells [.sl 3 0 32 32] none), some (.cells ws none), some (.cells [.int .i64 1, .sl 5 0 1 1] none), some (.cells [.int .u64 v, .bool h, .int .i64 o] none), some (.cells [.int .u64 0] none), some (.cells [.sl 8 0 2 2] none), some (.cells [.int .u64 0, .int .u64 0] none), some (.cells [.ptr 10 0, .int .i64 9, .int .i64 0, .int .u64 sm, .int .i64 ph, .int .u64 lv, .bool lh, .int .i64 lo, .int .u64 wd] none), some (.cells [.int .i64 0, .int .i64 su, .int .i64 en, .int .i64 bu, .int .i64 er] none), some (.cells wa (some 1))] []))
   else (
    bif xcm .eql en 2 then (
     bif xcm .neq en 2 then (
      bif xcm .leq 0 (xwr .u64 (xar .rem .u8 sg 6)) then (
       bif xcm .lss 0 (xwr .u64 ↑k) then (
        bif xcm .neq en 2 then (
         bif xle 1 k then
         bif xle 1 (xln wa) then
         bif isI .u64 (nthD wa 0) then
         bif xle 1 (xln wa) then
         bif isI .u64 (nthD wa 0) then
         bif xcm .eql (asI (nthD wa 0)) (asI (nthD wa 0)) then
         bif xle 1 (xln wa) then
         bif isI .u64 (nthD wa 0) then
         bif xcm .eql (asI (nthD wa 0)) (asI (nthD wa 0)) then
         K .ret [.slo 0 0 n 0, .int .u8 sg, .int .u8 s8, .bool (xcm .eql 0 (asI (nthD wa 0))), .ptr 1 0, .ptr 9 0, .slo 11 0 k 0, .int .i64 p, .int .i64 ↑i, .int .i64 en] [some (.ro ax), some (.cells [.int .i64 32, .int .i64 1, .int .i64 1, .int .i64 2, .int .u64 0, .ptr 2 0, .ptr 4 0, .ptr 6 0, .ptr 7 0, .int .i64 C] none), some (.cells [.sl 3 0 32 32] none), some (.cells ws none), some (.cells [.int .i64 1, .sl 5 0 1 1] none), some (.cells [.int .u64 v, .bool h, .int .i64 o] none), some (.cells [.int .u64 0] none), some (.cells [.sl 8 0 2 2] none), some (.cells [.int .u64 0, .int .u64 0] none), some (.cells [.ptr 10 0, .int .i64 9, .int .i64 0, .int .u64 sm, .int .i64 ph, .int .u64 lv, .bool lh, .int .i64 lo, .int .u64 wd] none), some (.cells [.int .i64 0, .int .i64 su, .int .i64 en, .int .i64 bu, .int .i64 er] none), some (.cells wa (some 1)), some (.cells [.int .i64 0, .int .u64 0] none), some (.cells [.int .i64 0, .int .u64 0] none)] []
         else False
         else False
         else False
         else False
         else False
         else False
         else False
         else False
         else False)
        else (
         bif xle 1 k then
         bif xle 1 (xln wa) then
         bif isI .u64 (nthD wa 0) then
         bif xle 1 (xln wa) then
         bif isI .u64 (nthD wa 0) then
         bif xcm .eql (asI (nthD wa 0)) (asI (nthD wa 0)) then
         bif xle 1 (xln wa) then
         bif isI .u64 (nthD wa 0) then
         bif xcm .eql (asI (nthD wa 0)) (asI (nthD wa 0)) then
         K .ret [.slo 0 0 n 0, .int .u8 sg, .int .u8 s8, .bool (xcm .eql wd (asI (nthD wa 0))), .ptr 1 0, .ptr 9 0, .slo 11 0 k 0, .int .i64 p, .int .i64 ↑i, .int .i64 en] [some (.ro ax), some (.cells [.int .i64 32, .int .i64 1, .int .i64 1, .int .i64 2, .int .u64 0, .ptr 2 0, .ptr 4 0, .ptr 6 0, .ptr 7 0, .int .i64 C] none), some (.cells [.sl 3 0 32 32] none), some (.cells ws none), some (.cells [.int .i64 1, .sl 5 0 1 1] none), some (.cells [.int .u64 v, .bool h, .int .i64 o] none), some (.cells [.int .u64 0] none), some (.cells [.sl 8 0 2 2] none), some (.cells [.int .u64 0, .int .u64 0] none), some (.cells [.ptr 10 0, .int .i64 9, .int .i64 0, .int .u64 sm, .int .i64 ph, .int .u64 lv, .bool lh, .int .i64 lo, .int .u64 wd] none), some (.cells [.int .i64 0, .int .i64 su, .int .i64 en, .int .i64 bu, .int .i64 er] none), some (.cells wa (some 1)), some (.cells [.int .i64 0, .int .u64 0] none), some (.cells [.int .i64 0, .int .u64 0] none)] []
         else False
         else False
         else False
         else False
         else False
         else False
         else False
         else False
         else False))
       else (
        K .ret [.slo 0 0 n 0, .int .u8 sg, .int .u8 s8, .bool false, .ptr 1 0, .ptr 9 0, .slo 11 0 k 0, .int .i64 p, .int .i64 ↑i, .int .i64 en] [some (.ro ax), some (.cells [.int .i64 32, .int .i64 1, .int .i64 1, .int .i64 2, .int .u64 0, .ptr 2 0, .ptr 4 0, .ptr 6 0, .ptr 7 0, .int .i64 C] none), some (.cells [.sl 3 0 32 32] none), some (.cells ws none), some (.cells [.int .i64 1, .sl 5 0 1 1] none), some (.cells [.int .u64 v, .bool h, .int .i64 o] none), some (.cells [.int .u64 0] none), some (.cells [.sl 8 0 2 2] none), some (.cells [.int .u64 0, .int .u64 0] none), some (.cells [.ptr 10 0, .int .i64 9, .int .i64 0, .int .u64 sm, .int .i64 ph, .int .u64 lv, .bool lh, .int .i64 lo, .int .u64 wd] none), some (.cells [.int .i64 0, .int .i64 su, .int .i64 en, .int .i64 bu, .int .i64 er] none), some (.cells wa (some 1)), some (.cells [.int .i64 0, .int .u64 0] none), some (.cells [.int .i64 0, .int .u64 0] none)] []))
      else (
       K .ret [.slo 0 0 n 0, .int .u8 sg, .int .u8 s8, .bool false, .ptr 1 0, .ptr 9 0, .slo 11 0 k 0, .int .i64 p, .int .i64 ↑i, .int .i64 en] [some (.ro ax), some (.cells [.int .i64 32, .int .i64 1, .int .i64 1, .int .i64 2, .int .u64 0, .ptr 2 0, .ptr 4 0, .ptr 6 0, .ptr 7 0, .int .i64 C] none), some (.cells [.sl 3 0 32 32] none), some (.cells ws none), some (.cells [.int .i64 1, .sl 5 0 1 1] none), some (.cells [.int .u64 v, .bool h, .int .i64 o] none), some (.cells [.int .u64 0] none), some (.cells [.sl 8 0 2 2] none), some (.cells [.int .u64 0, .int .u64 0] none), some (.cells [.ptr 10 0, .int .i64 9, .int .i64 0, .int .u64 sm, .int .i64 ph, .int .u64 lv, .bool lh, .int .i64 lo, .int .u64 wd] none), some (.cells [.int .i64 0, .int .i64 su, .int .i64 en, .int .i64 bu, .int .i64 er] none), some (.cells wa (some 1)), some (.cells [.int .i64 0, .int .u64 0] none), some (.cells [.int .i64 0, .int .u64 0] none)] []))
     else (
      bif xcm .leq lv (xwr .u64 (xar .rem .u8 sg 6)) then (
       bif xcm .lss lv (xwr .u64 ↑k) then (
        bif xcm .neq en 2 then (
         bif xnn lv then
         bif xle (xadd (xnat lv) 1) k then
         bif xle (xadd (xix 0 (xnat lv) 1) 1) (xln wa) then
         bif isI .u64 (nthD wa (xix 0 (xnat lv) 1)) then
         bif xcm .eql lv lv then
         bif xcm .eql lv lv then
         bif xcm .eql lv lv then
         bif xcm .eql lv lv then
         bif xcm .eql lv lv then
         bif xcm .eql lv lv then
         bif xle (xadd (xix 0 (xnat lv) 1) 1) (xln wa) then
         bif isI .u64 (nthD wa (xix 0 (xnat lv) 1)) then
         bif xcm .eql (asI (nthD wa (xix 0 (xnat lv) 1))) (asI (nthD wa (xix 0 (xnat lv) 1))) then
         bif xle (xadd (xix 0 (xnat lv) 1) 1) (xln wa) then
         bif isI .u64 (nthD wa (xix 0 (xnat lv) 1)) then
         bif xcm .eql (asI (nthD wa (xix 0 (xnat lv) 1))) (asI (nthD wa (xix 0 (xnat lv) 1))) then
         K .ret [.slo 0 0 n 0, .int .u8 sg, .int .u8 s8, .bool (xcm .eql 0 (asI (nthD wa (xix 0 (xnat lv) 1)))), .ptr 1 0, .ptr 9 0, .slo 11 0 k 0, .int .i64 p, .int .i64 ↑i, .int .i64 en] [some (.ro ax), some (.cells [.int .i64 32, .int .i64 1, .int .i64 1, .int .i64 2, .int .u64 0, .ptr 2 0, .ptr 4 0, .ptr 6 0, .ptr 7 0, .int .i64 C] none), some (.cells [.sl 3 0 32 32] none), some (.cells ws none), some (.cells [.int .i64 1, .sl 5 0 1 1] none), some (.cells [.int .u64 v, .bool h, .int .i64 o] none), some (.cells [.int .u64 0] none), some (.cells [.sl 8 0 2 2] none), some (.cells [.int .u64 0, .int .u64 0] none), some (.cells [.ptr 10 0, .int .i64 9, .int .i64 0, .int .u64 sm, .int .i64 ph, .int .u64 lv, .bool lh, .int .i64 lo, .int .u64 wd] none), some (.cells [.int .i64 0, .int .i64 su, .int .i64 en, .int .i64 bu, .int .i64 er] none), some (.cells wa (some 1)), some (.cells [.int .i64 0, .int .u64 lv] none), some (.cells [.int .i64 0, .int .u64 lv] none)] []
         else False
         else False
         else False
         else False
         else False
         else False
         else False
         else False
         else False
         else False
         else False
         else False
         else False
         else False
         else False
         else False)
        else (
         bif xnn lv then
         bif xle (xadd (xnat lv) 1) k then
         bif xle (xadd (xix 0 (xnat lv) 1) 1) (xln wa) then
         bif isI .u64 (nthD wa (xix 0 (xnat lv) 1)) then
         bif xcm .eql lv lv then
         bif xcm .eql lv lv then
         bif xcm .eql lv lv then
         bif xcm .eql lv lv then
         bif xcm .eql lv lv then
         bif xcm .eql lv lv then
         bif xle (xadd (xix 0 (xnat lv) 1) 1) (xln wa) then
         bif isI .u64 (nthD wa (xix 0 (xnat lv) 1)) then
         bif xcm .eql (asI (nthD wa (xix 0 (xnat lv) 1))) (asI (nthD wa (xix 0 (xnat lv) 1))) then
         bif xle (xadd (xix 0 (xnat lv) 1) 1) (xln wa) then
         bif isI .u64 (nthD wa (xix 0 (xnat lv) 1)) then
         bif xcm .eql (asI (nthD wa (xix 0 (xnat lv) 1))) (asI (nthD wa (xix 0 (xnat lv) 1))) then
         K .ret [.slo 0 0 n 0, .int .u8 sg, .int .u8 s8, .bool (xcm .eql wd (asI (nthD wa (xix 0 (xnat lv) 1)))), .ptr 1 0, .ptr 9 0, .slo 11 0 k 0, .int .i64 p, .int .i64 ↑i, .int .i64 en] [some (.ro ax), some (.cells [.int .i64 32, .int .i64 1, .int .i64 1, .int .i64 2, .int .u64 0, .ptr 2 0, .ptr 4 0, .ptr 6 0, .ptr 7 0, .int .i64 C] none), some (.cells [.sl 3 0 32 32] none), some (.cells ws none), some (.cells [.int .i64 1, .sl 5 0 1 1] none), some (.cells [.int .u64 v, .bool h, .int .i64 o] none), some (.cells [.int .u64 0] none), some (.cells [.sl 8 0 2 2] none), some (.cells [.int .u64 0, .int .u64 0] none), some (.cells [.ptr 10 0, .int .i64 9, .int .i64 0, .int .u64 sm, .int .i64 ph, .int .u64 lv, .bool lh, .int .i64 lo, .int .u64 wd] none), some (.cells [.int .i64 0, .int .i64 su, .int .i64 en, .int .i64 bu, .int .i64 er] none), some (.cells wa (some 1)), some (.cells [.int .i64 0, .int .u64 lv] none), some (.cells [.int .i64 0, .int .u64 lv] none)] []
         else False
         else False
         else False
         else False
         else False
         else False
         else False
         else False
         else False
         else False
         else False
         else False
         else False
         else False
         else False
         else False))
       else (
        bif xcm .eql lv lv then
        bif xcm .eql lv lv then
        bif xcm .eql lv lv then
        bif xcm .eql lv lv then
        K .ret [.slo 0 0 n 0, .int .u8 sg, .int .u8 s8, .bool false, .ptr 1 0, .ptr 9 0, .slo 11 0 k 0, .int .i64 p, .int .i64 ↑i, .int .i64 en] [some (.ro ax), some (.cells [.int .i64 32, .int .i64 1, .int .i64 1, .int .i64 2, .int .u64 0, .ptr 2 0, .ptr 4 0, .ptr 6 0, .ptr 7 0, .int .i64 C] none), some (.cells [.sl 3 0 32 32] none), some (.cells ws none), some (.cells [.int .i64 1, .sl 5 0 1 1] none), some (.cells [.int .u64 v, .bool h, .int .i64 o] none), some (.cells [.int .u64 0] none), some (.cells [.sl 8 0 2 2] none), some (.cells [.int .u64 0, .int .u64 0] none), some (.cells [.ptr 10 0, .int .i64 9, .int .i64 0, .int .u64 sm, .int .i64 ph, .int .u64 lv, .bool lh, .int .i64 lo, .int .u64 wd] none), some (.cells [.int .i64 0, .int .i64 su, .int .i64 en, .int .i64 bu, .int .i64 er] none), some (.cells wa (some 1)), some (.cells [.int .i64 0, .int .u64 lv] none), some (.cells [.int .i64 0, .int .u64 lv] none)] []
        else False
        else False
        else False
        else False))
      else (
       bif xcm .eql lv lv then
       bif xcm .eql lv lv then
       K .ret [.slo 0 0 n 0, .int .u8 sg, .int .u8 s8, .bool false, .ptr 1 0, .ptr 9 0, .slo 11 0 k 0, .int .i64 p, .int .i64 ↑i, .int .i64 en] [some (.ro ax), some (.cells [.int .i64 32, .int .i64 1, .int .i64 1, .int .i64 2, .int .u64 0, .ptr 2 0, .ptr 4 0, .ptr 6 0, .ptr 7 0, .int .i64 C] none), some (.cells [.sl 3 0 32 32] none), some (.cells ws none), some (.cells [.int .i64 1, .sl 5 0 1 1] none), some (.cells [.int .u64 v, .bool h, .int .i64 o] none), some (.cells [.int .u64 0] none), some (.cells [.sl 8 0 2 2] none), some (.cells [.int .u64 0, .int .u64 0] none), some (.cells [.ptr 10 0, .int .i64 9, .int .i64 0, .int .u64 sm, .int .i64 ph, .int .u64 lv, .bool lh, .int .i64 lo, .int .u64 wd] none), some (.cells [.int .i64 0, .int .i64 su, .int .i64 en, .int .i64 bu, .int .i64 er] none), some (.cells wa (some 1)), some (.cells [.int .i64 0, .int .u64 lv] none), some (.cells [.int .i64 0, .int .u64 lv] none)] []
       else False
       else False)))
    else (
     K .ret [.slo 0 0 n 0, .int .u8 sg, .int .u8 s8, .bool false, .ptr 1 0, .ptr 9 0, .slo 11 0 k 0, .int .i64 p, .int .i64 ↑i, .int .i64 en] [some (.ro ax), some (.cells [.int .i64 32, .int .i64 1, .int .i64 1, .int .i64 2, .int .u64 0, .ptr 2 0, .ptr 4 0, .ptr 6 0, .ptr 7 0, .int .i64 C] none), some (.cells [.sl 3 0 32 32] none), some (.cells ws none), some (.cells [.int .i64 1, .sl 5 0 1 1] none), some (.cells [.int .u64 v, .bool h, .int .i64 o] none), some (.cells [.int .u64 0] none), some (.cells [.sl 8 0 2 2] none), some (.cells [.int .u64 0, .int .u64 0] none), some (.cells [.ptr 10 0, .int .i64 9, .int .i64 0, .int .u64 sm, .int .i64 ph, .int .u64 lv, .bool lh, .int .i64 lo, .int .u64 wd] none), some (.cells [.int .i64 0, .int .i64 su, .int .i64 en, .int .i64 bu, .int .i64 er] none), some (.cells wa (some 1))] [])))
  else (
   bif xcm .eql en 6 then (
    bif xcm .neq en 2 then (
     K .ret [.slo 0 0 n 0, .int .u8 sg, .int .u8 s8, .bool true, .ptr 1 0, .ptr 9 0, .slo 11 0 k 0, .int .i64 p, .int .i64 ↑i, .int .i64 en] [some (.ro ax), some (.cells [.int .i64 32, .int .i64 1, .int .i64 1, .int .i64 2, .int .u64 0, .ptr 2 0, .ptr 4 0, .ptr 6 0, .ptr 7 0, .int .i64 C] none), some (.cells [.sl 3 0 32 32] none), some (.cells ws none), some (.cells [.int .i64 1, .sl 5 0 1 1] none), some (.cells [.int .u64 v, .bool h, .int .i64 o] none), some (.cells [.int .u64 0] none), some (.cells [.sl 8 0 2 2] none), some (.cells [.int .u64 0, .int .u64 0] none), some (.cells [.ptr 10 0, .int .i64 9, .int .i64 0, .int .u64 sm, .int .i64 ph, .int .u64 lv, .bool lh, .int .i64 lo, .int .u64 wd] none), some (.cells [.int .i64 0, .int .i64 su, .int .i64 en, .int .i64 bu, .int .i64 er] none), some (.cells wa (some 1))] [])
    else (
     K .ret [.slo 0 0 n 0, .int .u8 sg, .int .u8 s8, .bool (xcm .eql wd 0), .ptr 1 0, .ptr 9 0, .slo 11 0 k 0, .int .i64 p, .int .i64 ↑i, .int .i64 en] [some (.ro ax), some (.cells [.int .i64 32, .int .i64 1, .int .i64 1, .int .i64 2, .int .u64 0, .ptr 2 0, .ptr 4 0, .ptr 6 0, .ptr 7 0, .int .i64 C] none), some (.cells [.sl 3 0 32 32] none), some (.cells ws none), some (.cells [.int .i64 1, .sl 5 0 1 1] none), some (.cells [.int .u64 v, .bool h, .int .i64 o] none), some (.cells [.int .u64 0] none), some (.cells [.sl 8 0 2 2] none), some (.cells [.int .u64 0, .int .u64 0] none), some (.cells [.ptr 10 0, .int .i64 9, .int .i64 0, .int .u64 sm, .int .i64 ph, .int .u64 lv, .bool lh, .int .i64 lo, .int .u64 wd] none), some (.cells [.int .i64 0, .int .i64 su, .int .i64 en, .int .i64 bu, .int .i64 er] none), some (.cells wa (some 1))] []))
   else (
    bif xcm .eql en 2 then (
     bif xcm .neq en 2 then (
      bif xcm .leq 0 (xwr .u64 (xar .rem .u8 sg 6)) then (
       bif xcm .lss 0 (xwr .u64 ↑k) then (
        bif xcm .neq en 2 then (
         bif xle 1 k then
         bif xle 1 (xln wa) then
         bif isI .u64 (nthD wa 0) then
         bif xle 1 (xln wa) then
         bif isI .u64 (nthD wa 0) then
         bif xcm .eql (asI (nthD wa 0)) (asI (nthD wa 0)) then
         bif xle 1 (xln wa) then
         bif isI .u64 (nthD wa 0) then
         bif xcm .eql (asI (nthD wa 0)) (asI (nthD wa 0)) then
         K .ret [.slo 0 0 n 0, .int .u8 sg, .int .u8 s8, .bool (xcm .eql 0 (asI (nthD wa 0))), .ptr 1 0, .ptr 9 0, .slo 11 0 k 0, .int .i64 p, .int .i64 ↑i, .int .i64 en] [some (.ro ax), some (.cells [.int .i64 32, .int .i64 1, .int .i64 1, .int .i64 2, .int .u64 0, .ptr 2 0, .ptr 4 0, .ptr 6 0, .ptr 7 0, .int .i64 C] none), some (.cells [.sl 3 0 32 32] none), some (.cells ws none), some (.cells [.int .i64 1, .sl 5 0 1 1] none), some (.cells [.int .u64 v, .bool h, .int .i64 o] none), some (.cells [.int .u64 0] none), some (.cells [.sl 8 0 2 2] none), some (.cells [.int .u64 0, .int .u64 0] none), some (.cells [.ptr 10 0, .int .i64 9, .int .i64 0, .int .u64 sm, .int .i64 ph, .int .u64 lv, .bool lh, .int .i64 lo, .int .u64 wd] none), some (.cells [.int .i64 0, .int .i64 su, .int .i64 en, .int .i64 bu, .int .i64 er] none), some (.cells wa (some 1)), some (.cells [.int .i64 0, .int .u64 0] none), some (.cells [.int .i64 0, .int .u64 0] none)] []
         else False
         else False
         else False
         else False
         else False
         else False
         else False
         else False
         else False)
        else (
         bif xle 1 k then
         bif xle 1 (xln wa) then
         bif isI .u64 (nthD wa 0) then
         bif xle 1 (xln wa) then
         bif isI .u64 (nthD wa 0) then
         bif xcm .eql (asI (nthD wa 0)) (asI (nthD wa 0)) then
         bif xle 1 (xln wa) then
         bif isI .u64 (nthD wa 0) then
         bif xcm .eql (asI (nthD wa 0)) (asI (nthD wa 0)) then
         K .ret [.slo 0 0 n 0, .int .u8 sg, .int .u8 s8, .bool (xcm .eql wd (asI (nthD wa 0))), .ptr 1 0, .ptr 9 0, .slo 11 0 k 0, .int .i64 p, .int .i64 ↑i, .int .i64 en] [some (.ro ax), some (.cells [.int .i64 32, .int .i64 1, .int .i64 1, .int .i64 2, .int .u64 0, .ptr 2 0, .ptr 4 0, .ptr 6 0, .ptr 7 0, .int .i64 C] none), some (.cells [.sl 3 0 32 32] none), some (.cells ws none), some (.cells [.int .i64 1, .sl 5 0 1 1] none), some (.cells [.int .u64 v, .bool h, .int .i64 o] none), some (.cells [.int .u64 0] none), some (.cells [.sl 8 0 2 2] none), some (.cells [.int .u64 0, .int .u64 0] none), some (.cells [.ptr 10 0, .int .i64 9, .int .i64 0, .int .u64 sm, .int .i64 ph, .int .u64 lv, .bool lh, .int .i64 lo, .int .u64 wd] none), some (.cells [.int .i64 0, .int .i64 su, .int .i64 en, .int .i64 bu, .int .i64 er] none), some (.cells wa (some 1)), some (.cells [.int .i64 0, .int .u64 0] none), some (.cells [.int .i64 0, .int .u64 0] none)] []
         else False
         else False
         else False
         else False
         else False
         else False
         else False
         else False
         else False))
       else (
        K .ret [.slo 0 0 n 0, .int .u8 sg, .int .u8 s8, .bool false, .ptr 1 0, .ptr 9 0, .slo 11 0 k 0, .int .i64 p, .int .i64 ↑i, .int .i64 en] [some (.ro ax), some (.cells [.int .i64 32, .int .i64 1, .int .i64 1, .int .i64 2, .int .u64 0, .ptr 2 0, .ptr 4 0, .ptr 6 0, .ptr 7 0, .int .i64 C] none), some (.cells [.sl 3 0 32 32] none), some (.cells ws none), some (.cells [.int .i64 1, .sl 5 0 1 1] none), some (.cells [.int .u64 v, .bool h, .int .i64 o] none), some (.cells [.int .u64 0] none), some (.cells [.sl 8 0 2 2] none), some (.cells [.int .u64 0, .int .u64 0] none), some (.cells [.ptr 10 0, .int .i64 9, .int .i64 0, .int .u64 sm, .int .i64 ph, .int .u64 lv, .bool lh, .int .i64 lo, .int .u64 wd] none), some (.cells [.int .i64 0, .int .i64 su, .int .i64 en, .int .i64 bu, .int .i64 er] none), some (.cells wa (some 1)), some (.cells [.int .i64 0, .int .u64 0] none), some (.cells [.int .i64 0, .int .u64 0] none)] []))
      else (
       K .ret [.slo 0 0 n 0, .int .u8 sg, .int .u8 s8, .bool false, .ptr 1 0, .ptr 9 0, .slo 11 0 k 0, .int .i64 p, .int .i64 ↑i, .int .i64 en] [some (.ro ax), some (.cells [.int .i64 32, .int .i64 1, .int .i64 1, .int .i64 2, .int .u64 0, .ptr 2 0, .ptr 4 0, .ptr 6 0, .ptr 7 0, .int .i64 C] none), some (.cells [.sl 3 0 32 32] none), some (.cells ws none), some (.cells [.int .i64 1, .sl 5 0 1 1] none), some (.cells [.int .u64 v, .bool h, .int .i64 o] none), some (.cells [.int .u64 0] none), some (.cells [.sl 8 0 2 2] none), some (.cells [.int .u64 0, .int .u64 0] none), some (.cells [.ptr 10 0, .int .i64 9, .int .i64 0, .int .u64 sm, .int .i64 ph, .int .u64 lv, .bool lh, .int .i64 lo, .int .u64 wd] none), some (.cells [.int .i64 0, .int .i64 su, .int .i64 en, .int .i64 bu, .int .i64 er] none), some (.cells wa (some 1)), some (.cells [.int .i64 0, .int .u64 0] none), some (.cells [.int .i64 0, .int .u64 0] none)] []))
     else (
      bif xcm .leq lv (xwr .u64 (xar .rem .u8 sg 6)) then (
       bif xcm .lss lv (xwr .u64 ↑k) then (
        bif xcm .neq en 2 then (
         bif xnn lv then
         bif xle (xadd (xnat lv) 1) k then
         bif xle (xadd (xix 0 (xnat lv) 1) 1) (xln wa) then
         bif isI .u64 (nthD wa (xix 0 (xnat lv) 1)) then
         bif xcm .eql lv lv then
         bif xcm .eql lv lv then
         bif xcm .eql lv lv then
         bif xcm .eql lv lv then
         bif xcm .eql lv lv then
         bif xcm .eql lv lv then
         bif xle (xadd (xix 0 (xnat lv) 1) 1) (xln wa) then
         bif isI .u64 (nthD wa (xix 0 (xnat lv) 1)) then
         bif xcm .eql (asI (nthD wa (xix 0 (xnat lv) 1))) (asI (nthD wa (xix 0 (xnat lv) 1))) then
         bif xle (xadd (xix 0 (xnat lv) 1) 1) (xln wa) then
         bif isI .u64 (nthD wa (xix 0 (xnat lv) 1)) then
         bif xcm .eql (asI (nthD wa (xix 0 (xnat lv) 1))) (asI (nthD wa (xix 0 (xnat lv) 1))) then
         K .ret [.slo 0 0 n 0, .int .u8 sg, .int .u8 s8, .bool (xcm .eql 0 (asI (nthD wa (xix 0 (xnat lv) 1)))), .ptr 1 0, .ptr 9 0, .slo 11 0 k 0, .int .i64 p, .int .i64 ↑i, .int .i64 en] [some (.ro ax), some (.cells [.int .i64 32, .int .i64 1, .int .i64 1, .int .i64 2, .int .u64 0, .ptr 2 0, .ptr 4 0, .ptr 6 0, .ptr 7 0, .int .i64 C] none), some (.cells [.sl 3 0 32 32] none), some (.cells ws none), some (.cells [.int .i64 1, .sl 5 0 1 1] none), some (.cells [.int .u64 v, .bool h, .int .i64 o] none), some (.cells [.int .u64 0] none), some (.cells [.sl 8 0 2 2] none), some (.cells [.int .u64 0, .int .u64 0] none), some (.cells [.ptr 10 0, .int .i64 9, .int .i64 0, .int .u64 sm, .int .i64 ph, .int .u64 lv, .bool lh, .int .i64 lo, .int .u64 wd] none), some (.cells [.int .i64 0, .int .i64 su, .int .i64 en, .int .i64 bu, .int .i64 er] none), some (.cells wa (some 1)), some (.cells [.int .i64 0, .int .u64 lv] none), some (.cells [.int .i64 0, .int .u64 lv] none)] []
         else False
         else False
         else False
         else False
         else False
         else False
         else False
         else False
         else False
         else False
         else False
         else False
         else False
         else False
         else False
         else False)
        else (
         bif xnn lv then
         bif xle (xadd (xnat lv) 1) k then
         bif xle (xadd (xix 0 (xnat lv) 1) 1) (xln wa) then
         bif isI .u64 (nthD wa (xix 0 (xnat lv) 1)) then
         bif xcm .eql lv lv then
         bif xcm .eql lv lv then
         bif xcm .eql lv lv then
         bif xcm .eql lv lv then
         bif xcm .eql lv lv then
         bif xcm .eql lv lv then
         bif xle (xadd (xix 0 (xnat lv) 1) 1) (xln wa) then
         bif isI .u64 (nthD wa (xix 0 (xnat lv) 1)) then
         bif xcm .eql (asI (nthD wa (xix 0 (xnat lv) 1))) (asI (nthD wa (xix 0 (xnat lv) 1))) then
         bif xle (xadd (xix 0 (xnat lv) 1) 1) (xln wa) then
         bif isI .u64 (nthD wa (xix 0 (xnat lv) 1)) then
         bif xcm .eql (asI (nthD wa (xix 0 (xnat lv) 1))) (asI (nthD wa (xix 0 (xnat lv) 1))) then
         K .ret [.slo 0 0 n 0, .int .u8 sg, .int .u8 s8, .bool (xcm .eql wd (asI (nthD wa (xix 0 (xnat lv) 1)))), .ptr 1 0, .ptr 9 0, .slo 11 0 k 0, .int .i64 p, .int .i64 ↑i, .int .i64 en] [some (.ro ax), some (.cells [.int .i64 32, .int .i64 1, .int .i64 1, .int .i64 2, .int .u64 0, .ptr 2 0, .ptr 4 0, .ptr 6 0, .ptr 7 0, .int .i64 C] none), some (.cells [.sl 3 0 32 32] none), some (.cells ws none), some (.cells [.int .i64 1, .sl 5 0 1 1] none), some (.cells [.int .u64 v, .bool h, .int .i64 o] none), some (.cells [.int .u64 0] none), some (.cells [.sl 8 0 2 2] none), some (.cells [.int .u64 0, .int .u64 0] none), some (.cells [.ptr 10 0, .int .i64 9, .int .i64 0, .int .u64 sm, .int .i64 ph, .int .u64 lv, .bool lh, .int .i64 lo, .int .u64 wd] none), some (.cells [.int .i64 0, .int .i64 su, .int .i64 en, .int .i64 bu, .int .i64 er] none), some (.cells wa (some 1)), some (.cells [.int .i64 0, .int .u64 lv] none), some (.cells [.int .i64 0, .int .u64 lv] none)] []
         else False
         else False
         else False
         else False
         else False
         else False
         else False
         else False
         else False
         else False
         else False
         else False
         else False
         else False
         else False
         else False))
       else (
        bif xcm .eql lv lv then
        bif xcm .eql lv lv then
        bif xcm .eql lv lv then
        bif xcm .eql lv lv then
        K .ret [.slo 0 0 n 0, .int .u8 sg, .int .u8 s8, .bool false, .ptr 1 0, .ptr 9 0, .slo 11 0 k 0, .int .i64 p, .int .i64 ↑i, .int .i64 en] [some (.ro ax), some (.cells [.int .i64 32, .int .i64 1, .int .i64 1, .int .i64 2, .int .u64 0, .ptr 2 0, .ptr 4 0, .ptr 6 0, .ptr 7 0, .int .i64 C] none), some (.cells [.sl 3 0 32 32] none), some (.cells ws none), some (.cells [.int .i64 1, .sl 5 0 1 1] none), some (.cells [.int .u64 v, .bool h, .int .i64 o] none), some (.cells [.int .u64 0] none), some (.cells [.sl 8 0 2 2] none), some (.cells [.int .u64 0, .int .u64 0] none), some (.cells [.ptr 10 0, .int .i64 9, .int .i64 0, .int .u64 sm, .int .i64 ph, .int .u64 lv, .bool lh, .int .i64 lo, .int .u64 wd] none), some (.cells [.int .i64 0, .int .i64 su, .int .i64 en, .int .i64 bu, .int .i64 er] none), some (.cells wa (some 1)), some (.cells [.int .i64 0, .int .u64 lv] none), some (.cells [.int .i64 0, .int .u64 lv] none)] []
        else False
        else False
        else False
        else False))
      else (
       bif xcm .eql lv lv then
       bif xcm .eql lv lv then
       K .ret [.slo 0 0 n 0, .int .u8 sg, .int .u8 s8, .bool false, .ptr 1 0, .ptr 9 0, .slo 11 0 k 0, .int .i64 p, .int .i64 ↑i, .int .i64 en] [some (.ro ax), some (.cells [.int .i64 32, .int .i64 1, .int .i64 1, .int .i64 2, .int .u64 0, .ptr 2 0, .ptr 4 0, .ptr 6 0, .ptr 7 0, .int .i64 C] none), some (.cells [.sl 3 0 32 32] none), some (.cells ws none), some (.cells [.int .i64 1, .sl 5 0 1 1] none), some (.cells [.int .u64 v, .bool h, .int .i64 o] none), some (.cells [.int .u64 0] none), some (.cells [.sl 8 0 2 2] none), some (.cells [.int .u64 0, .int .u64 0] none), some (.cells [.ptr 10 0, .int .i64 9, .int .i64 0, .int .u64 sm, .int .i64 ph, .int .u64 lv, .bool lh, .int .i64 lo, .int .u64 wd] none), some (.cells [.int .i64 0, .int .i64 su, .int .i64 en, .int .i64 bu, .int .i64 er] none), some (.cells wa (some 1)), some (.cells [.int .i64 0, .int .u64 lv] none), some (.cells [.int .i64 0, .int .u64 lv] none)] []
       else False
       else False)))
    else (
     K .ret [.slo 0 0 n 0, .int .u8 sg, .int .u8 s8, .bool false, .ptr 1 0, .ptr 9 0, .slo 11 0 k 0, .int .i64 p, .int .i64 ↑i, .int .i64 en] [some (.ro ax), some (.cells [.int .i64 32, .int .i64 1, .int .i64 1, .int .i64 2, .int .u64 0, .ptr 2 0, .ptr 4 0, .ptr 6 0, .ptr 7 0, .int .i64 C] none), some (.cells [.sl 3 0 32 32] none), some (.cells ws none), some (.cells [.int .i64 1, .sl 5 0 1 1] none), some (.cells [.int .u64 v, .bool h, .int .i64 o] none), some (.cells [.int .u64 0] none), some (.cells [.sl 8 0 2 2] none), some (.cells [.int .u64 0, .int .u64 0] none), some (.cells [.ptr 10 0, .int .i64 9, .int .i64 0, .int .u64 sm, .int .i64 ph, .int .u64 lv, .bool lh, .int .i64 lo, .int .u64 wd] none), some (.cells [.int .i64 0, .int .i64 su, .int .i64 en, .int .i64 bu, .int .i64 er] none), some (.cells wa (some 1))] [])))) := by kernel_rfl
end
end Go.Lev
