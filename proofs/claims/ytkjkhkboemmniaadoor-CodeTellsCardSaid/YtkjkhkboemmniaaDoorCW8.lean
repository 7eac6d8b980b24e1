/- CodeTells: trees -/
import Derived.Test.YtkjkhkboemmniaaDoorCW7
import Derived.Test.YtkjkhkboemmniaaDoorLc
import Derived.Test.YtkjkhkboemmniaaDoorChecked
import Derived.KernelRfl

import Derived.Test.YtkjkhkboemmniaaDoorLc
import Derived.Test.YtkjkhkboemmniaaDoorRows
namespace Go.Lev
open Go.RowKit
set_option linter.unusedVariables false
set_option linter.unusedSimpArgs false
set_option maxRecDepth 100000
noncomputable section
def cxt : Cx := cxl [(3, runG3), (10, nameG), (12, callG), (8, opG), (9, whichG), (11, mayG), (16, rmayG), (14, rowG), (15, rcallG)]
def wnW (k : Int) (s : List UInt8) : Int := wantN nmN (k - 1).toNat s

def wnB (k : Int) (s : List UInt8) : Bool := decide (wantN nmN (k - 1).toNat s ≠ 0)

def clW (k : Int) (s : List UInt8) : Int := wantN clN (k - 1).toNat s

def clB (k : Int) (s : List UInt8) : Bool := decide (wantN clN (k - 1).toNat s ≠ 0)

abbrev ctL : List Nat := [1, 2, 3, 4, 8, 9, 11, 12, 13, 16, 17, 18]
abbrev ctA (op wh : Int) (s : List UInt8) (k : Int) : List (Nat × LV) := [(1, .int .i64 op), (2, .int .i64 wh), (3, .str s), (4, .ptr 0 0), (9, .ptr 1 0), (11, .int .i64 (wnW k s)), (12, .bool (wnB k s)), (13, .int .i64 k)]
abbrev ctB (op wh : Int) (s : List UInt8) (k : Int) : List (Nat × LV) := [(1, .int .i64 op), (2, .int .i64 wh), (3, .str s), (4, .ptr 0 0), (9, .ptr 1 0), (11, .int .i64 (wnW 24 s)), (12, .bool (wnB 24 s)), (16, .int .i64 (clW k s)), (17, .bool (clB k s)), (18, .int .i64 k)]
abbrev ctH (io ia ib ic iN op : Int) : List LB := [.cells [.int .i64 io, .int .i64 ia, .int .i64 ib, .int .i64 ic, .int .u64 iN] none, .cells [.str (nameW op), .int .i64 (rA op), .int .i64 (rB op), .int .i64 (rC op), .bool (rD op)] none]
theorem ct_a (io ia ib ic iN op wh : Int) (s : List UInt8) (K : Pk) : (xsp Go.Proofs.Tryd.prog cxt 60 116 (seg (sp Go.Proofs.Tryd.prog 4) 0 6) (tm0 [insL io ia ib ic iN, .int .i64 op, .int .i64 wh, .str s]) (mkS [] tab3) (vK ctL K)) = (
  K .normal [.int .i64 op, .int .i64 wh, .str s, .ptr 0 0, .bool false, .ptr 1 0, .int .i64 0, .bool false, .int .i64 1, .tup [], .tup [], .tup []] [some (.cells [.int .i64 io, .int .i64 ia, .int .i64 ib, .int .i64 ic, .int .u64 iN] none), some (.cells [.str (nameW op), .int .i64 (rA op), .int .i64 (rB op), .int .i64 (rC op), .bool (rD op)] none)] tab3) := by kernel_rfl
theorem ct_l (io ia ib ic iN op wh : Int) (s : List UInt8) (k : Int) (K : Pk) : (xcode Go.Proofs.Tryd.prog cxt 60 116 (loopOf (nthC (sp Go.Proofs.Tryd.prog 4) 6)) (mkTm 116 (ctA op wh s k)) (mkS (ctH io ia ib ic iN op) tab3) (vK ctL K)) = (
  bif xcm .leq k 23 then (
   bif rOk k then (
    bif xstr .eql (nameW k) s then (
     K .normal [.int .i64 op, .int .i64 wh, .str s, .ptr 0 0, .any, .ptr 1 0, .int .i64 k, .bool true, .int .i64 (xar .add .i64 k 1), .any, .any, .any] [some (.cells [.int .i64 io, .int .i64 ia, .int .i64 ib, .int .i64 ic, .int .u64 iN] none), some (.cells [.str (nameW op), .int .i64 (rA op), .int .i64 (rB op), .int .i64 (rC op), .bool (rD op)] none), some (.cells [.str (nameW k), .int .i64 (rA k), .int .i64 (rB k), .int .i64 (rC k), .bool (rD k)] none)] tab3)
    else (
     K .normal [.int .i64 op, .int .i64 wh, .str s, .ptr 0 0, .any, .ptr 1 0, .int .i64 (wnW k s), .bool (wnB k s), .int .i64 (xar .add .i64 k 1), .any, .any, .any] [some (.cells [.int .i64 io, .int .i64 ia, .int .i64 ib, .int .i64 ic, .int .u64 iN] none), some (.cells [.str (nameW op), .int .i64 (rA op), .int .i64 (rB op), .int .i64 (rC op), .bool (rD op)] none), some (.cells [.str (nameW k), .int .i64 (rA k), .int .i64 (rB k), .int .i64 (rC k), .bool (rD k)] none)] tab3))
   else (
    K .normal [.int .i64 op, .int .i64 wh, .str s, .ptr 0 0, .any, .ptr 1 0, .int .i64 (wnW k s), .bool (wnB k s), .int .i64 (xar .add .i64 k 1), .any, .any, .any] [some (.cells [.int .i64 io, .int .i64 ia, .int .i64 ib, .int .i64 ic, .int .u64 iN] none), some (.cells [.str (nameW op), .int .i64 (rA op), .int .i64 (rB op), .int .i64 (rC op), .bool (rD op)] none), some (.cells [.str (nameW k), .int .i64 (rA k), .int .i64 (rB k), .int .i64 (rC k), .bool (rD k)] none)] tab3))
  else (
   K (.exit 0) [.int .i64 op, .int .i64 wh, .str s, .ptr 0 0, .any, .ptr 1 0, .int .i64 (wnW k s), .bool (wnB k s), .int .i64 k, .any, .any, .any] [some (.cells [.int .i64 io, .int .i64 ia, .int .i64 ib, .int .i64 ic, .int .u64 iN] none), some (.cells [.str (nameW op), .int .i64 (rA op), .int .i64 (rB op), .int .i64 (rC op), .bool (rD op)] none)] tab3)) := by kernel_rfl
theorem ct_b (io ia ib ic iN op wh : Int) (s : List UInt8) (K : Pk) : (xsp Go.Proofs.Tryd.prog cxt 60 116 (seg (sp Go.Proofs.Tryd.prog 4) 7 2) (mkTm 116 (ctA op wh s 24)) (mkS (ctH io ia ib ic iN op) tab3) (vK ctL K)) = (
  K .normal [.int .i64 op, .int .i64 wh, .str s, .ptr 0 0, .any, .ptr 1 0, .int .i64 (wnW 24 s), .bool (wnB 24 s), .int .i64 24, .int .i64 0, .bool false, .int .i64 1] [some (.cells [.int .i64 io, .int .i64 ia, .int .i64 ib, .int .i64 ic, .int .u64 iN] none), some (.cells [.str (nameW op), .int .i64 (rA op), .int .i64 (rB op), .int .i64 (rC op), .bool (rD op)] none)] tab3) := by kernel_rfl
theorem ct_m (io ia ib ic iN op wh : Int) (s : List UInt8) (k : Int) (K : Pk) : (xcode Go.Proofs.Tryd.prog cxt 60 116 (loopOf (nthC (sp Go.Proofs.Tryd.prog 4) 9)) (mkTm 116 (ctB op wh s k)) (mkS (ctH io ia ib ic iN op) tab3) (vK ctL K)) = (
  bif xcm .leq k 12 then (
   bif xstr .eql (callW k) s then (
    K .normal [.int .i64 op, .int .i64 wh, .str s, .ptr 0 0, .any, .ptr 1 0, .int .i64 (wnW 24 s), .bool (wnB 24 s), .any, .int .i64 k, .bool true, .int .i64 (xar .add .i64 k 1)] [some (.cells [.int .i64 io, .int .i64 ia, .int .i64 ib, .int .i64 ic, .int .u64 iN] none), some (.cells [.str (nameW op), .int .i64 (rA op), .int .i64 (rB op), .int .i64 (rC op), .bool (rD op)] none)] tab3)
   else (
    K .normal [.int .i64 op, .int .i64 wh, .str s, .ptr 0 0, .any, .ptr 1 0, .int .i64 (wnW 24 s), .bool (wnB 24 s), .any, .int .i64 (clW k s), .bool (clB k s), .int .i64 (xar .add .i64 k 1)] [some (.cells [.int .i64 io, .int .i64 ia, .int .i64 ib, .int .i64 ic, .int .u64 iN] none), some (.cells [.str (nameW op), .int .i64 (rA op), .int .i64 (rB op), .int .i64 (rC op), .bool (rD op)] none)] tab3))
  else (
   K (.exit 2) [.int .i64 op, .int .i64 wh, .str s, .ptr 0 0, .any, .ptr 1 0, .int .i64 (wnW 24 s), .bool (wnB 24 s), .any, .int .i64 (clW k s), .bool (clB k s), .int .i64 k] [some (.cells [.int .i64 io, .int .i64 ia, .int .i64 ib, .int .i64 ic, .int .u64 iN] none), some (.cells [.str (nameW op), .int .i64 (rA op), .int .i64 (rB op), .int .i64 (rC op), .bool (rD op)] none)] tab3)) := by kernel_rfl
theorem ct_z (io ia ib ic iN op wh : Int) (s : List UInt8) (K : Pk) : (xsp Go.Proofs.Tryd.prog cxt 60 116 ((sp Go.Proofs.Tryd.prog 4).drop 10) (mkTm 116 (ctB op wh s 13)) (mkS (ctH io ia ib ic iN op) tab3) (vK ctL K)) = (
  bif xbq (mayW io ia ib ic iN) (mayW io ia ib ic iN) then (
   bif xstr .eql (nameW op) (nameW op) then (
    bif xcm .eql (opW s) (wnW 24 s) then (
     bif xbq (opB s) (wnB 24 s) then (
      bif xstr .eql (callW wh) (callW wh) then (
       bif xcm .eql (whW s) (clW 13 s) then (
        bif xbq (whB s) (clB 13 s) then (
         bif xcm .eql op 12 then (
          bif xcm .eql op 12 then (
           bif xcm .eql io io then
           bif xcm .eql ia ia then
           bif xcm .eql ib ib then
           bif xcm .eql ic ic then
           bif xcm .eql iN iN then
           bif xcm .eql io io then
           bif xcm .eql ia ia then
           bif xcm .eql ib ib then
           bif xcm .eql ic ic then
           bif xcm .eql iN iN then
           bif xstr .eql (nameW op) (nameW op) then
           bif xstr .eql (nameW op) (nameW op) then
           K .ret [.int .i64 op, .int .i64 wh, .str s, .ptr 0 0, .bool true, .ptr 1 0, .int .i64 (wnW 24 s), .bool (wnB 24 s), .any, .int .i64 (clW 13 s), .bool (clB 13 s), .int .i64 13] [some (.cells [.int .i64 io, .int .i64 ia, .int .i64 ib, .int .i64 ic, .int .u64 iN] none), some (.cells [.str (nameW op), .int .i64 (rA op), .int .i64 (rB op), .int .i64 (rC op), .bool (rD op)] none)] tab3
           else False
           else False
           else False
           else False
           else False
           else False
           else False
           else False
           else False
           else False
           else False
           else False)
          else (
           bif xcm .eql io io then
           bif xcm .eql ia ia then
           bif xcm .eql ib ib then
           bif xcm .eql ic ic then
           bif xcm .eql iN iN then
           bif xcm .eql io io then
           bif xcm .eql ia ia then
           bif xcm .eql ib ib then
           bif xcm .eql ic ic then
           bif xcm .eql iN iN then
           bif xstr .eql (nameW op) (nameW op) then
           bif xstr .eql (nameW op) (nameW op) then
           K .ret [.int .i64 op, .int .i64 wh, .str s, .ptr 0 0, .bool (xbq true (xcm .eql op 13)), .ptr 1 0, .int .i64 (wnW 24 s), .bool (wnB 24 s), .any, .int .i64 (clW 13 s), .bool (clB 13 s), .int .i64 13] [some (.cells [.int .i64 io, .int .i64 ia, .int .i64 ib, .int .i64 ic, .int .u64 iN] none), some (.cells [.str (nameW op), .int .i64 (rA op), .int .i64 (rB op), .int .i64 (rC op), .bool (rD op)] none)] tab3
           else False
           else False
           else False
           else False
           else False
           else False
           else False
           else False
           else False
           else False
           else False
           else False))
         else (
          bif xcm .eql op 12 then (
           bif xcm .eql io io then
           bif xcm .eql ia ia then
           bif xcm .eql ib ib then
           bif xcm .eql ic ic then
           bif xcm .eql iN iN then
           bif xcm .eql io io then
           bif xcm .eql ia ia then
           bif xcm .eql ib ib then
           bif xcm .eql ic ic then
           bif xcm .eql iN iN then
           bif xstr .eql (nameW op) (nameW op) then
           bif xstr .eql (nameW op) (nameW op) then
           K .ret [.int .i64 op, .int .i64 wh, .str s, .ptr 0 0, .bool (xbq (xcm .eql op 13) true), .ptr 1 0, .int .i64 (wnW 24 s), .bool (wnB 24 s), .any, .int .i64 (clW 13 s), .bool (clB 13 s), .int .i64 13] [some (.cells [.int .i64 io, .int .i64 ia, .int .i64 ib, .int .i64 ic, .int .u64 iN] none), some (.cells [.str (nameW op), .int .i64 (rA op), .int .i64 (rB op), .int .i64 (rC op), .bool (rD op)] none)] tab3
           else False
           else False
           else False
           else False
           else False
           else False
           else False
           else False
           else False
           else False
           else False
           else False)
          else (
           bif xcm .eql io io then
           bif xcm .eql ia ia then
           bif xcm .eql ib ib then
           bif xcm .eql ic ic then
           bif xcm .eql iN iN then
           bif xcm .eql io io then
           bif xcm .eql ia ia then
           bif xcm .eql ib ib then
           bif xcm .eql ic ic then
           bif xcm .eql iN iN then
           bif xstr .eql (nameW op) (nameW op) then
           bif xstr .eql (nameW op) (nameW op) then
           K .ret [.int .i64 op, .int .i64 wh, .str s, .ptr 0 0, .bool (xbq (xcm .eql op 13) (xcm .eql op 13)), .ptr 1 0, .int .i64 (wnW 24 s), .bool (wnB 24 s), .any, .int .i64 (clW 13 s), .bool (clB 13 s), .int .i64 13] [some (.cells [.int .i64 io, .int .i64 ia, .int .i64 ib, .int .i64 ic, .int .u64 iN] none), some (.cells [.str (nameW op), .int .i64 (rA op), .int .i64 (rB op), .int .i64 (rC op), .bool (rD op)] none)] tab3
           else False
           else False
           else False
           else False
           else False
           else False
           else False
           else False
           else False
           else False
           else False
           else False)))
        else (
         bif xcm .eql io io then
         bif xcm .eql ia ia then
         bif xcm .eql ib ib then
         bif xcm .eql ic ic then
         bif xcm .eql iN iN then
         bif xcm .eql io io then
         bif xcm .eql ia ia then
         bif xcm .eql ib ib then
         bif xcm .eql ic ic then
         bif xcm .eql iN iN then
         bif xstr .eql (nameW op) (nameW op) then
         bif xstr .eql (nameW op) (nameW op) then
         K .ret [.int .i64 op, .int .i64 wh, .str s, .ptr 0 0, .bool false, .ptr 1 0, .int .i64 (wnW 24 s), .bool (wnB 24 s), .any, .int .i64 (clW 13 s), .bool (clB 13 s), .int .i64 13] [some (.cells [.int .i64 io, .int .i64 ia, .int .i64 ib, .int .i64 ic, .int .u64 iN] none), some (.cells [.str (nameW op), .int .i64 (rA op), .int .i64 (rB op), .int .i64 (rC op), .bool (rD op)] none)] tab3
         else False
         else False
         else False
         else False
         else False
         else False
         else False
         else False
         else False
         else False
         else False
         else False))
       else (
        bif xcm .eql io io then
        bif xcm .eql ia ia then
        bif xcm .eql ib ib then
        bif xcm .eql ic ic then
        bif xcm .eql iN iN then
        bif xcm .eql io io then
        bif xcm .eql ia ia then
        bif xcm .eql ib ib then
        bif xcm .eql ic ic then
        bif xcm .eql iN iN then
        bif xstr .eql (nameW op) (nameW op) then
        bif xstr .eql (nameW op) (nameW op) then
        K .ret [.int .i64 op, .int .i64 wh, .str s, .ptr 0 0, .bool false, .ptr 1 0, .int .i64 (wnW 24 s), .bool (wnB 24 s), .any, .int .i64 (clW 13 s), .bool (clB 13 s), .int .i64 13] [some (.cells [.int .i64 io, .int .i64 ia, .int .i64 ib, .int .i64 ic, .int .u64 iN] none), some (.cells [.str (nameW op), .int .i64 (rA op), .int .i64 (rB op), .int .i64 (rC op), .bool (rD op)] none)] tab3
        else False
        else False
        else False
        else False
        else False
        else False
        else False
        else False
        else False
        else False
        else False
        else False))
      else (
       bif xcm .eql io io then
       bif xcm .eql ia ia then
       bif xcm .eql ib ib then
       bif xcm .eql ic ic then
       bif xcm .eql iN iN then
       bif xcm .eql io io then
       bif xcm .eql ia ia then
       bif xcm .eql ib ib then
       bif xcm .eql ic ic then
       bif xcm .eql iN iN then
       bif xstr .eql (nameW op) (nameW op) then
       bif xstr .eql (nameW op) (nameW op) then
       K .ret [.int .i64 op, .int .i64 wh, .str s, .ptr 0 0, .bool false, .ptr 1 0, .int .i64 (wnW 24 s), .bool (wnB 24 s), .any, .int .i64 (clW 13 s), .bool (clB 13 s), .int .i64 13] [some (.cells [.int .i64 io, .int .i64 ia, .int .i64 ib, .int .i64 ic, .int .u64 iN] none), some (.cells [.str (nameW op), .int .i64 (rA op), .int .i64 (rB op), .int .i64 (rC op), .bool (rD op)] none)] tab3
       else False
       else False
       else False
       else False
       else False
       else False
       else False
       else False
       else False
       else False
       else False
       else False))
     else (
      bif xcm .eql io io then
      bif xcm .eql ia ia then
      bif xcm .eql ib ib then
      bif xcm .eql ic ic then
      bif xcm .eql iN iN then
      bif xcm .eql io io then
      bif xcm .eql ia ia then
      bif xcm .eql ib ib then
      bif xcm .eql ic ic then
      bif xcm .eql iN iN then
      bif xstr .eql (nameW op) (nameW op) then
      bif xstr .eql (nameW op) (nameW op) then
      K .ret [.int .i64 op, .int .i64 wh, .str s, .ptr 0 0, .bool false, .ptr 1 0, .int .i64 (wnW 24 s), .bool (wnB 24 s), .any, .int .i64 (clW 13 s), .bool (clB 13 s), .int .i64 13] [some (.cells [.int .i64 io, .int .i64 ia, .int .i64 ib, .int .i64 ic, .int .u64 iN] none), some (.cells [.str (nameW op), .int .i64 (rA op), .int .i64 (rB op), .int .i64 (rC op), .bool (rD op)] none)] tab3
      else False
      else False
      else False
      else False
      else False
      else False
      else False
      else False
      else False
      else False
      else False
      else False))
    else (
     bif xcm .eql io io then
     bif xcm .eql ia ia then
     bif xcm .eql ib ib then
     bif xcm .eql ic ic then
     bif xcm .eql iN iN then
     bif xcm .eql io io then
     bif xcm .eql ia ia then
     bif xcm .eql ib ib then
     bif xcm .eql ic ic then
     bif xcm .eql iN iN then
     bif xstr .eql (nameW op) (nameW op) then
     bif xstr .eql (nameW op) (nameW op) then
     K .ret [.int .i64 op, .int .i64 wh, .str s, .ptr 0 0, .bool false, .ptr 1 0, .int .i64 (wnW 24 s), .bool (wnB 24 s), .any, .int .i64 (clW 13 s), .bool (clB 13 s), .int .i64 13] [some (.cells [.int .i64 io, .int .i64 ia, .int .i64 ib, .int .i64 ic, .int .u64 iN] none), some (.cells [.str (nameW op), .int .i64 (rA op), .int .i64 (rB op), .int .i64 (rC op), .bool (rD op)] none)] tab3
     else False
     else False
     else False
     else False
     else False
     else False
     else False
     else False
     else False
     else False
     else False
     else False))
   else (
    bif xcm .eql io io then
    bif xcm .eql ia ia then
    bif xcm .eql ib ib then
    bif xcm .eql ic ic then
    bif xcm .eql iN iN then
    bif xcm .eql io io then
    bif xcm .eql ia ia then
    bif xcm .eql ib ib then
    bif xcm .eql ic ic then
    bif xcm .eql iN iN then
    bif xstr .eql (nameW op) (nameW op) then
    bif xstr .eql (nameW op) (nameW op) then
    K .ret [.int .i64 op, .int .i64 wh, .str s, .ptr 0 0, .bool false, .ptr 1 0, .int .i64 (wnW 24 s), .bool (wnB 24 s), .any, .int .i64 (clW 13 s), .bool (clB 13 s), .int .i64 13] [some (.cells [.int .i64 io, .int .i64 ia, .int .i64 ib, .int .i64 ic, .int .u64 iN] none), some (.cells [.str (nameW op), .int .i64 (rA op), .int .i64 (rB op), .int .i64 (rC op), .bool (rD op)] none)] tab3
    else False
    else False
    else False
    else False
    else False
    else False
    else False
    else False
    else False
    else False
    else False
    else False))
  else (
   bif xcm .eql io io then
   bif xcm .eql ia ia then
   bif xcm .eql ib ib then
   bif xcm .eql ic ic then
   bif xcm .eql iN iN then
   bif xcm .eql io io then
   bif xcm .eql ia ia then
   bif xcm .eql ib ib then
   bif xcm .eql ic ic then
   bif xcm .eql iN iN then
   K .ret [.int .i64 op, .int .i64 wh, .str s, .ptr 0 0, .bool false, .ptr 1 0, .int .i64 (wnW 24 s), .bool (wnB 24 s), .any, .int .i64 (clW 13 s), .bool (clB 13 s), .int .i64 13] [some (.cells [.int .i64 io, .int .i64 ia, .int .i64 ib, .int .i64 ic, .int .u64 iN] none), some (.cells [.str (nameW op), .int .i64 (rA op), .int .i64 (rB op), .int .i64 (rC op), .bool (rD op)] none)] tab3
   else False
   else False
   else False
   else False
   else False
   else False
   else False
   else False
   else False
   else False)) := by kernel_rfl
end
end Go.Lev
