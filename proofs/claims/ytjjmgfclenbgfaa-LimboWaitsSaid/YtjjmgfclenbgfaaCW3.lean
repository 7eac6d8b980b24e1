/- LimboWaits (P12.1): for all stamps and slots the law returns true; what was there stays as it was. No condition. -/
import Derived.Test.YtjjmgfclenbgfaaCW2
import Derived.Test.YtjjmgfclenbgfaaLc
import Derived.Test.YtjjmgfclenbgfaaChecked
import Derived.KernelRfl

namespace Go.Lev
open Go.RowKit
set_option linter.unusedVariables false
set_option linter.unusedSimpArgs false
set_option maxRecDepth 100000
noncomputable section
def cxw : Cx := cxl [(3, runG), (13, psdG), (8, ripG), (7, addG), (14, cloneG 2), (12, sameCRestG)]
abbrev wL : List Nat := [0, 1, 2, 6, 7, 8, 9, 10, 11, 12, 13, 14]
abbrev w1T (na nb k : Nat) (mo : Int) : List (Nat × LV) := [(0, .slo 0 0 na 0), (1, .slo 1 0 nb 0), (2, .int .u8 mo), (7, .ptr 2 0), (8, .int .i64 k)]
abbrev w1H (ax bx : List LV) (n : Nat) (cs : List LV) : List LB := [.ro ax, .ro bx, .cells [.slo 3 0 n 0] none, .cells cs (some 2)]
theorem lw_a (mo : Int) (na nb : Nat) (ax bx : List LV) (K : Pk) : (xsp Go.Proofs.Try.prog cxw 40 175 (seg (sp Go.Proofs.Try.prog 5) 0 9) (tm0 [.slo 0 0 na 0, .slo 1 0 nb 0, .int .u8 mo]) (mkS [.ro ax, .ro bx]) (vK wL K)) = (
  bif xcm .gtr (↑na) 40 then (
   K .ret [.slo 0 0 na 0, .slo 1 0 nb 0, .int .u8 mo, .bool true, .tup [], .tup [], .tup [], .tup [], .tup [], .tup [], .tup [], .tup []] [some (.ro ax), some (.ro bx)] [])
  else (
   bif xcm .gtr (↑nb) 4 then (
    K .ret [.slo 0 0 na 0, .slo 1 0 nb 0, .int .u8 mo, .bool true, .tup [], .tup [], .tup [], .tup [], .tup [], .tup [], .tup [], .tup []] [some (.ro ax), some (.ro bx)] [])
   else (
    K .normal [.slo 0 0 na 0, .slo 1 0 nb 0, .int .u8 mo, .bool false, .ptr 2 0, .int .i64 0, .tup [], .tup [], .tup [], .tup [], .tup [], .tup []] [some (.ro ax), some (.ro bx), some (.cells [.nils] none)] []))) := by kernel_rfl
theorem lw_b (mo : Int) (na nb n k : Nat) (ax bx cs : List LV) (K : Pk) : (xcode Go.Proofs.Try.prog cxw 40 175 (loopOf (nthC (sp Go.Proofs.Try.prog 5) 9)) (mkTm 175 (w1T na nb k mo)) (mkS (w1H ax bx n cs)) (vK wL K)) = (
  bif xcm .lss ↑k ↑na then (
   bif xle (xadd (xnat ↑k) 1) na then
   bif xle (xadd (xix 0 (xnat ↑k) 1) 1) (xln ax) then
   bif isI .u8 (nthD ax (xix 0 (xnat ↑k) 1)) then
   bif okC cs n then
   bif okIi64 [.int .i64 ↑k] 1 then
   bif xle (xadd (xadd n 1) 1) 1000000 then
   K .normal [.slo 0 0 na 0, .slo 1 0 nb 0, .int .u8 mo, .any, .ptr 2 0, .int .i64 (xar .add .i64 (↑k) 1), .any, .any, .any, .any, .any, .any] [some (.ro ax), some (.ro bx), some (.cells [.slo 5 0 (xadd n 1) 0] none), some .dead, some (.cells [.int .i64 ↑k] none), some (.cells (addC cs [.int .i64 ↑k] (xwr .u64 (xar .rem .u8 (asI (nthD ax (xix 0 (xnat ↑k) 1))) 16))) (some 2))] []
   else False
   else False
   else False
   else False
   else False
   else False)
  else (
   K (.exit 0) [.slo 0 0 na 0, .slo 1 0 nb 0, .int .u8 mo, .any, .ptr 2 0, .int .i64 ↑k, .any, .any, .any, .any, .any, .any] [some (.ro ax), some (.ro bx), some (.cells [.slo 3 0 n 0] none), some (.cells cs (some 2))] [])) := by kernel_rfl
theorem lw_c (mo : Int) (na nb n k : Nat) (ax bx cs : List LV) (K : Pk) : (xsp Go.Proofs.Try.prog cxw 40 175 (seg (sp Go.Proofs.Try.prog 5) 10 2) (mkTm 175 (w1T na nb k mo)) (mkS (w1H ax bx n cs)) (vK wL K)) = (
  K .normal [.slo 0 0 na 0, .slo 1 0 nb 0, .int .u8 mo, .any, .ptr 2 0, .int .i64 ↑k, .nils, .int .i64 0, .any, .any, .any, .any] [some (.ro ax), some (.ro bx), some (.cells [.slo 3 0 n 0] none), some (.cells cs (some 2))] []) := by kernel_rfl
abbrev w2T (na nb k : Nat) (mo : Int) : List (Nat × LV) := [(0, .slo 0 0 na 0), (1, .slo 1 0 nb 0), (2, .int .u8 mo), (7, .ptr 2 0), (9, .slo 4 0 k 0), (10, .int .i64 k)]
abbrev w2H (ax bx : List LV) (n : Nat) (cs ss : List LV) : List LB := [.ro ax, .ro bx, .cells [.slo 3 0 n 0] none, .cells cs (some 2), .cells ss (some 1)]
theorem lw_d (mo : Int) (na nb n k : Nat) (ax bx cs ss : List LV) (K : Pk) : (xcode Go.Proofs.Try.prog cxw 40 175 (loopOf (nthC (sp Go.Proofs.Try.prog 5) 12)) (mkTm 175 (w2T na nb k mo)) (mkS (w2H ax bx n cs ss)) (vK wL K)) = (
  bif xcm .lss ↑k ↑nb then (
   bif xle (xadd (xnat ↑k) 1) nb then
   bif xle (xadd (xix 0 (xnat ↑k) 1) 1) (xln bx) then
   bif isI .u8 (nthD bx (xix 0 (xnat ↑k) 1)) then
   bif xle (xadd k 1) 1000000 then
   bif xle (xadd 0 (xmul k 1)) (xln ss) then
   K .normal [.slo 0 0 na 0, .slo 1 0 nb 0, .int .u8 mo, .any, .ptr 2 0, .any, .slo 6 0 (xadd k 1) 0, .int .i64 (xar .add .i64 (↑k) 1), .any, .any, .any, .any] [some (.ro ax), some (.ro bx), some (.cells [.slo 3 0 n 0] none), some (.cells cs (some 2)), some .dead, some (.cells [.int .u64 (xwr .u64 (xar .rem .u8 (asI (nthD bx (xix 0 (xnat ↑k) 1))) 18))] none), some (.cells (xcat (xcut ss 0 (xmul k 1)) [.int .u64 (xwr .u64 (xar .rem .u8 (asI (nthD bx (xix 0 (xnat ↑k) 1))) 18))]) (some 1))] []
   else False
   else False
   else False
   else False
   else False)
  else (
   K (.exit 2) [.slo 0 0 na 0, .slo 1 0 nb 0, .int .u8 mo, .any, .ptr 2 0, .any, .slo 4 0 k 0, .int .i64 ↑k, .any, .any, .any, .any] [some (.ro ax), some (.ro bx), some (.cells [.slo 3 0 n 0] none), some (.cells cs (some 2)), some (.cells ss (some 1))] [])) := by kernel_rfl
theorem lw_e (mo : Int) (na nb n k : Nat) (ax bx cs ss : List LV) (K : Pk) : (xsp Go.Proofs.Try.prog cxw 40 175 (seg (sp Go.Proofs.Try.prog 5) 13 2) (mkTm 175 (w2T na nb k mo)) (mkS (w2H ax bx n cs ss)) (vK wL K)) = (
  bif okC cs n then
  bif okIu64 ss k then
  bif xle (xadd n 1) 1000000 then
  K .normal [.slo 0 0 na 0, .slo 1 0 nb 0, .int .u8 mo, .any, .ptr 2 0, .any, .slo 4 0 k 0, .int .i64 ↑k, .slo 5 0 (ripN cs ss) 0, .int .i64 0, .any, .any] [some (.ro ax), some (.ro bx), some (.cells [.slo 6 0 (rstN cs ss) 0] none), some .dead, some (.cells ss (some 1)), some (.cells (ripC cs ss) (some 2)), some (.cells (rstC cs ss) (some 2))] []
  else False
  else False
  else False) := by kernel_rfl
abbrev w3T (na ns p k : Nat) (mo : Int) : List (Nat × LV) := [(0, .slo 0 0 na 0), (2, .int .u8 mo), (7, .ptr 2 0), (9, .slo 4 0 ns 0), (11, .slo 5 0 p 0), (12, .int .i64 k)]
abbrev w3H (ax bx : List LV) (q : Nat) (rs ss ps : List LV) : List LB := [.ro ax, .ro bx, .cells [.slo 3 0 q 0] none, .cells rs (some 2), .cells ss (some 1), .cells ps (some 2)]
theorem lw_f (mo : Int) (na ns p q k : Nat) (ax bx rs ss ps : List LV) (K : Pk) : (xcode Go.Proofs.Try.prog cxw 40 175 (loopOf (nthC (sp Go.Proofs.Try.prog 5) 15)) (mkTm 175 (w3T na ns p k mo)) (mkS (w3H ax bx q rs ss ps)) (vK wL K)) = (
  bif xcm .lss ↑k ↑p then (
   bif xle (xadd (xnat ↑k) 1) p then
   bif xle (xadd (xadd (xix 0 (xnat ↑k) 2) 1) 1) (xln ps) then
   bif isI .u64 (nthD ps (xadd (xix 0 (xnat ↑k) 2) 1)) then
   bif okIu64 ss ns then
   bif xnot (psdW ss (asI (nthD ps (xadd (xix 0 (xnat ↑k) 2) 1)))) then (
    K .ret [.slo 0 0 na 0, .any, .int .u8 mo, .bool false, .ptr 2 0, .any, .slo 4 0 ns 0, .any, .slo 5 0 p 0, .int .i64 ↑k, .any, .any] [some (.ro ax), some (.ro bx), some (.cells [.slo 3 0 q 0] none), some (.cells rs (some 2)), some (.cells ss (some 1)), some (.cells ps (some 2))] [])
   else (
    bif xle (xadd (xnat ↑k) 1) p then
    bif xle (xadd (xix 0 (xnat ↑k) 2) 1) (xln ps) then
    bif isI .i64 (nthD ps (xix 0 (xnat ↑k) 2)) then
    bif xcm .lss (asI (nthD ps (xix 0 (xnat ↑k) 2))) 0 then (
     K .ret [.slo 0 0 na 0, .any, .int .u8 mo, .bool false, .ptr 2 0, .any, .slo 4 0 ns 0, .any, .slo 5 0 p 0, .int .i64 ↑k, .any, .any] [some (.ro ax), some (.ro bx), some (.cells [.slo 3 0 q 0] none), some (.cells rs (some 2)), some (.cells ss (some 1)), some (.cells ps (some 2))] [])
    else (
     bif xle (xadd (xnat ↑k) 1) p then
     bif xle (xadd (xix 0 (xnat ↑k) 2) 1) (xln ps) then
     bif isI .i64 (nthD ps (xix 0 (xnat ↑k) 2)) then
     bif xcm .geq (asI (nthD ps (xix 0 (xnat ↑k) 2))) ↑na then (
      K .ret [.slo 0 0 na 0, .any, .int .u8 mo, .bool false, .ptr 2 0, .any, .slo 4 0 ns 0, .any, .slo 5 0 p 0, .int .i64 ↑k, .any, .any] [some (.ro ax), some (.ro bx), some (.cells [.slo 3 0 q 0] none), some (.cells rs (some 2)), some (.cells ss (some 1)), some (.cells ps (some 2))] [])
     else (
      bif xle (xadd (xnat ↑k) 1) p then
      bif xle (xadd (xix 0 (xnat ↑k) 2) 1) (xln ps) then
      bif isI .i64 (nthD ps (xix 0 (xnat ↑k) 2)) then
      bif xnn (asI (nthD ps (xix 0 (xnat ↑k) 2))) then
      bif xle (xadd (xnat (asI (nthD ps (xix 0 (xnat ↑k) 2)))) 1) na then
      bif xle (xadd (xix 0 (xnat (asI (nthD ps (xix 0 (xnat ↑k) 2)))) 1) 1) (xln ax) then
      bif isI .u8 (nthD ax (xix 0 (xnat (asI (nthD ps (xix 0 (xnat ↑k) 2)))) 1)) then
      bif xle (xadd (xnat ↑k) 1) p then
      bif xle (xadd (xadd (xix 0 (xnat ↑k) 2) 1) 1) (xln ps) then
      bif isI .u64 (nthD ps (xadd (xix 0 (xnat ↑k) 2) 1)) then
      bif xcm .neq (xwr .u64 (xar .rem .u8 (asI (nthD ax (xix 0 (xnat (asI (nthD ps (xix 0 (xnat ↑k) 2)))) 1))) 16)) (asI (nthD ps (xadd (xix 0 (xnat ↑k) 2) 1))) then (
       bif xle (xadd (xadd (xix 0 (xnat ↑k) 2) 1) 1) (xln ps) then
       bif isI .u64 (nthD ps (xadd (xix 0 (xnat ↑k) 2) 1)) then
       bif xcm .eql (asI (nthD ps (xadd (xix 0 (xnat ↑k) 2) 1))) (asI (nthD ps (xadd (xix 0 (xnat ↑k) 2) 1))) then
       bif xle (xadd (xadd (xix 0 (xnat ↑k) 2) 1) 1) (xln ps) then
       bif isI .u64 (nthD ps (xadd (xix 0 (xnat ↑k) 2) 1)) then
       bif xcm .eql (asI (nthD ps (xadd (xix 0 (xnat ↑k) 2) 1))) (asI (nthD ps (xadd (xix 0 (xnat ↑k) 2) 1))) then
       K .ret [.slo 0 0 na 0, .any, .int .u8 mo, .bool false, .ptr 2 0, .any, .slo 4 0 ns 0, .any, .slo 5 0 p 0, .int .i64 ↑k, .any, .any] [some (.ro ax), some (.ro bx), some (.cells [.slo 3 0 q 0] none), some (.cells rs (some 2)), some (.cells ss (some 1)), some (.cells ps (some 2))] []
       else False
       else False
       else False
       else False
       else False
       else False)
      else (
       bif xcm .gtr (↑k) 0 then (
        bif xle (xadd (xnat ↑k) 1) p then
        bif xle (xadd (xix 0 (xnat ↑k) 2) 1) (xln ps) then
        bif isI .i64 (nthD ps (xix 0 (xnat ↑k) 2)) then
        bif xnn (xar .sub .i64 (↑k) 1) then
        bif xle (xadd (xnat (xar .sub .i64 (↑k) 1)) 1) p then
        bif xle (xadd (xix 0 (xnat (xar .sub .i64 (↑k) 1)) 2) 1) (xln ps) then
        bif isI .i64 (nthD ps (xix 0 (xnat (xar .sub .i64 (↑k) 1)) 2)) then
        bif xle (xadd (xadd (xix 0 (xnat ↑k) 2) 1) 1) (xln ps) then
        bif isI .u64 (nthD ps (xadd (xix 0 (xnat ↑k) 2) 1)) then
        bif xcm .eql (asI (nthD ps (xadd (xix 0 (xnat ↑k) 2) 1))) (asI (nthD ps (xadd (xix 0 (xnat ↑k) 2) 1))) then
        bif xle (xadd (xadd (xix 0 (xnat ↑k) 2) 1) 1) (xln ps) then
        bif isI .u64 (nthD ps (xadd (xix 0 (xnat ↑k) 2) 1)) then
        bif xcm .eql (asI (nthD ps (xadd (xix 0 (xnat ↑k) 2) 1))) (asI (nthD ps (xadd (xix 0 (xnat ↑k) 2) 1))) then
        bif xcm .leq (asI (nthD ps (xix 0 (xnat ↑k) 2))) (asI (nthD ps (xix 0 (xnat (xar .sub .i64 (↑k) 1)) 2))) then (
         K .ret [.slo 0 0 na 0, .any, .int .u8 mo, .bool false, .ptr 2 0, .any, .slo 4 0 ns 0, .any, .slo 5 0 p 0, .int .i64 ↑k, .any, .any] [some (.ro ax), some (.ro bx), some (.cells [.slo 3 0 q 0] none), some (.cells rs (some 2)), some (.cells ss (some 1)), some (.cells ps (some 2))] [])
        else (
         K .normal [.slo 0 0 na 0, .any, .int .u8 mo, .any, .ptr 2 0, .any, .slo 4 0 ns 0, .any, .slo 5 0 p 0, .int .i64 (xar .add .i64 (↑k) 1), .any, .any] [some (.ro ax), some (.ro bx), some (.cells [.slo 3 0 q 0] none), some (.cells rs (some 2)), some (.cells ss (some 1)), some (.cells ps (some 2))] [])
        else False
        else False
        else False
        else False
        else False
        else False
        else False
        else False
        else False
        else False
        else False
        else False
        else False)
       else (
        bif xle (xadd (xadd (xix 0 (xnat ↑k) 2) 1) 1) (xln ps) then
        bif isI .u64 (nthD ps (xadd (xix 0 (xnat ↑k) 2) 1)) then
        bif xcm .eql (asI (nthD ps (xadd (xix 0 (xnat ↑k) 2) 1))) (asI (nthD ps (xadd (xix 0 (xnat ↑k) 2) 1))) then
        bif xle (xadd (xadd (xix 0 (xnat ↑k) 2) 1) 1) (xln ps) then
        bif isI .u64 (nthD ps (xadd (xix 0 (xnat ↑k) 2) 1)) then
        bif xcm .eql (asI (nthD ps (xadd (xix 0 (xnat ↑k) 2) 1))) (asI (nthD ps (xadd (xix 0 (xnat ↑k) 2) 1))) then
        K .normal [.slo 0 0 na 0, .any, .int .u8 mo, .any, .ptr 2 0, .any, .slo 4 0 ns 0, .any, .slo 5 0 p 0, .int .i64 (xar .add .i64 (↑k) 1), .any, .any] [some (.ro ax), some (.ro bx), some (.cells [.slo 3 0 q 0] none), some (.cells rs (some 2)), some (.cells ss (some 1)), some (.cells ps (some 2))] []
        else False
        else False
        else False
        else False
        else False
        else False))
      else False
      else False
      else False
      else False
      else False
      else False
      else False
      else False
      else False
      else False)
     else False
     else False
     else False)
    else False
    else False
    else False)
   else False
   else False
   else False
   else False)
  else (
   K (.exit 4) [.slo 0 0 na 0, .any, .int .u8 mo, .any, .ptr 2 0, .any, .slo 4 0 ns 0, .any, .slo 5 0 p 0, .int .i64 ↑k, .any, .any] [some (.ro ax), some (.ro bx), some (.cells [.slo 3 0 q 0] none), some (.cells rs (some 2)), some (.cells ss (some 1)), some (.cells ps (some 2))] [])) := by kernel_rfl
theorem lw_g (mo : Int) (na ns p q k : Nat) (ax bx rs ss ps : List LV) (K : Pk) : (xsp Go.Proofs.Try.prog cxw 40 175 (seg (sp Go.Proofs.Try.prog 5) 16 2) (mkTm 175 (w3T na ns p k mo)) (mkS (w3H ax bx q rs ss ps)) (vK wL K)) = (
  bif xle q 1000000 then
  bif xeq (xln rs) (xmul q 2) then
  bif xnoid rs then
  K .normal [.slo 0 0 na 0, .any, .int .u8 mo, .any, .ptr 2 0, .any, .slo 4 0 ns 0, .any, .slo 5 0 p 0, .int .i64 ↑k, .slo 6 0 q 0, .int .i64 0] [some (.ro ax), some (.ro bx), some (.cells [.slo 3 0 q 0] none), some (.cells rs (some 2)), some (.cells ss (some 1)), some (.cells ps (some 2)), some (.cells rs (some 2))] []
  else False
  else False
  else False) := by kernel_rfl
abbrev w4T (na ns p q k : Nat) (mo : Int) : List (Nat × LV) := [(0, .slo 0 0 na 0), (2, .int .u8 mo), (7, .ptr 2 0), (9, .slo 4 0 ns 0), (11, .slo 5 0 p 0), (13, .slo 6 0 q 0), (14, .int .i64 k)]
abbrev w4H (ax bx : List LV) (q : Nat) (rs ss ps : List LV) : List LB := [.ro ax, .ro bx, .cells [.slo 3 0 q 0] none, .cells rs (some 2), .cells ss (some 1), .cells ps (some 2), .cells rs (some 2)]
theorem lw_h (mo : Int) (na ns p q k : Nat) (ax bx rs ss ps : List LV) (K : Pk) : (xcode Go.Proofs.Try.prog cxw 40 175 (loopOf (nthC (sp Go.Proofs.Try.prog 5) 18)) (mkTm 175 (w4T na ns p q k mo)) (mkS (w4H ax bx q rs ss ps)) (vK wL K)) = (
  bif xcm .lss ↑k ↑q then (
   bif xle (xadd (xnat ↑k) 1) q then
   bif xle (xadd (xadd (xix 0 (xnat ↑k) 2) 1) 1) (xln rs) then
   bif isI .u64 (nthD rs (xadd (xix 0 (xnat ↑k) 2) 1)) then
   bif okIu64 ss ns then
   bif psdW ss (asI (nthD rs (xadd (xix 0 (xnat ↑k) 2) 1))) then (
    K .ret [.slo 0 0 na 0, .any, .int .u8 mo, .bool false, .ptr 2 0, .any, .slo 4 0 ns 0, .any, .slo 5 0 p 0, .any, .slo 6 0 q 0, .int .i64 ↑k] [some (.ro ax), some (.ro bx), some (.cells [.slo 3 0 q 0] none), some (.cells rs (some 2)), some (.cells ss (some 1)), some (.cells ps (some 2)), some (.cells rs (some 2))] [])
   else (
    K .normal [.slo 0 0 na 0, .any, .int .u8 mo, .any, .ptr 2 0, .any, .slo 4 0 ns 0, .any, .slo 5 0 p 0, .any, .slo 6 0 q 0, .int .i64 (xar .add .i64 (↑k) 1)] [some (.ro ax), some (.ro bx), some (.cells [.slo 3 0 q 0] none), some (.cells rs (some 2)), some (.cells ss (some 1)), some (.cells ps (some 2)), some (.cells rs (some 2))] [])
   else False
   else False
   else False
   else False)
  else (
   K (.exit 6) [.slo 0 0 na 0, .any, .int .u8 mo, .any, .ptr 2 0, .any, .slo 4 0 ns 0, .any, .slo 5 0 p 0, .any, .slo 6 0 q 0, .int .i64 ↑k] [some (.ro ax), some (.ro bx), some (.cells [.slo 3 0 q 0] none), some (.cells rs (some 2)), some (.cells ss (some 1)), some (.cells ps (some 2)), some (.cells rs (some 2))] [])) := by kernel_rfl
theorem lw_z (mo : Int) (na ns p q k : Nat) (ax bx rs ss ps : List LV) (K : Pk) : (xsp Go.Proofs.Try.prog cxw 40 175 ((sp Go.Proofs.Try.prog 5).drop 19) (mkTm 175 (w4T na ns p q k mo)) (mkS (w4H ax bx q rs ss ps)) (vK wL K)) = (
  bif xcm .neq (xar .add .i64 ↑p ↑q) ↑na then (
   K .ret [.slo 0 0 na 0, .any, .int .u8 mo, .bool false, .ptr 2 0, .any, .slo 4 0 ns 0, .any, .slo 5 0 p 0, .any, .slo 6 0 q 0, .int .i64 ↑k] [some (.ro ax), some (.ro bx), some (.cells [.slo 3 0 q 0] none), some (.cells rs (some 2)), some (.cells ss (some 1)), some (.cells ps (some 2)), some (.cells rs (some 2))] [])
  else (
   bif okC rs q then
   bif okIu64 ss ns then
   bif xle (xadd q 1) 1000000 then
   bif xcm .neq (↑(ripN rs ss)) 0 then (
    K .ret [.slo 0 0 na 0, .any, .int .u8 mo, .bool false, .ptr 2 0, .any, .slo 4 0 ns 0, .any, .slo 5 0 p 0, .any, .slo 6 0 q 0, .int .i64 ↑k] [some (.ro ax), some (.ro bx), some (.cells [.slo 8 0 (rstN rs ss) 0] none), some .dead, some (.cells ss (some 1)), some (.cells ps (some 2)), some (.cells rs (some 2)), some (.cells (ripC rs ss) (some 2)), some (.cells (rstC rs ss) (some 2))] [])
   else (
    bif okC (rstC rs ss) (rstN rs ss) then
    bif okIu64 [.int .u64 0, .int .u64 (xar .add .u64 20 (xwr .u64 mo))] 2 then
    bif xle (xadd (rstN rs ss) 1) 1000000 then
    bif okC (ripC (rstC rs ss) [.int .u64 0, .int .u64 (xar .add .u64 20 (xwr .u64 mo))]) (ripN (rstC rs ss) [.int .u64 0, .int .u64 (xar .add .u64 20 (xwr .u64 mo))]) then
    bif okC rs q then
    bif sameCRest (ripN (rstC rs ss) [.int .u64 0, .int .u64 (xar .add .u64 20 (xwr .u64 mo))]) q (ripC (rstC rs ss) [.int .u64 0, .int .u64 (xar .add .u64 20 (xwr .u64 mo))]) rs then (
     K .ret [.slo 0 0 na 0, .any, .int .u8 mo, .bool (xcm .eql (↑(rstN (rstC rs ss) [.int .u64 0, .int .u64 (xar .add .u64 20 (xwr .u64 mo))])) 0), .ptr 2 0, .any, .slo 4 0 ns 0, .any, .slo 5 0 p 0, .any, .slo 6 0 q 0, .int .i64 ↑k] [some (.ro ax), some (.ro bx), some (.cells [.slo 11 0 (rstN (rstC rs ss) [.int .u64 0, .int .u64 (xar .add .u64 20 (xwr .u64 mo))]) 0] none), some .dead, some (.cells ss (some 1)), some (.cells ps (some 2)), some (.cells rs (some 2)), some (.cells (ripC rs ss) (some 2)), some .dead, some (.cells [.int .u64 0, .int .u64 (xar .add .u64 20 (xwr .u64 mo))] none), some (.cells (ripC (rstC rs ss) [.int .u64 0, .int .u64 (xar .add .u64 20 (xwr .u64 mo))]) (some 2)), some (.cells (rstC (rstC rs ss) [.int .u64 0, .int .u64 (xar .add .u64 20 (xwr .u64 mo))]) (some 2))] [])
    else (
     K .ret [.slo 0 0 na 0, .any, .int .u8 mo, .bool false, .ptr 2 0, .any, .slo 4 0 ns 0, .any, .slo 5 0 p 0, .any, .slo 6 0 q 0, .int .i64 ↑k] [some (.ro ax), some (.ro bx), some (.cells [.slo 11 0 (rstN (rstC rs ss) [.int .u64 0, .int .u64 (xar .add .u64 20 (xwr .u64 mo))]) 0] none), some .dead, some (.cells ss (some 1)), some (.cells ps (some 2)), some (.cells rs (some 2)), some (.cells (ripC rs ss) (some 2)), some .dead, some (.cells [.int .u64 0, .int .u64 (xar .add .u64 20 (xwr .u64 mo))] none), some (.cells (ripC (rstC rs ss) [.int .u64 0, .int .u64 (xar .add .u64 20 (xwr .u64 mo))]) (some 2)), some (.cells (rstC (rstC rs ss) [.int .u64 0, .int .u64 (xar .add .u64 20 (xwr .u64 mo))]) (some 2))] [])
    else False
    else False
    else False
    else False
    else False)
   else False
   else False
   else False)) := by kernel_rfl
theorem runs12 : isTrue (lrun Go.Proofs.Try.prog 4000 3 []) = true := by kernel_rfl
theorem cxw_ok : CtrOk Go.Proofs.Try.prog (ctrOf cxw) := cxl_ok ⟨runG_ok runs12, psdG_ok, ripG_ok, addG_ok, cloneRest_ok, sameCRestG_ok, trivial⟩
theorem ripC_e (xs : List (Int × Int)) (zs : List Int) : ripC (encL cell xs) (encL (cI .u64) zs) = encL cell (xs.filter (fun x => psd zs x.2)) := by simp only [ripC, decC_enc, decIu64_enc]
theorem ripN_e (xs : List (Int × Int)) (zs : List Int) : ripN (encL cell xs) (encL (cI .u64) zs) = (xs.filter (fun x => psd zs x.2)).length := by simp only [ripN, decC_enc, decIu64_enc]
theorem rstC_e (xs : List (Int × Int)) (zs : List Int) : rstC (encL cell xs) (encL (cI .u64) zs) = encL cell (xs.filter (fun x => !psd zs x.2)) := by simp only [rstC, decC_enc, decIu64_enc]
theorem rstN_e (xs : List (Int × Int)) (zs : List Int) : rstN (encL cell xs) (encL (cI .u64) zs) = (xs.filter (fun x => !psd zs x.2)).length := by simp only [rstN, decC_enc, decIu64_enc]
theorem addC_e (xs : List (Int × Int)) (a st : Int) : addC (encL cell xs) [.int .i64 a] st = encL cell (xs ++ [(a, st)]) := by simp only [addC, decC_enc]; rfl
theorem psdW_e (zs : List Int) (st : Int) : psdW (encL (cI .u64) zs) st = psd zs st := by simp only [psdW, decIu64_enc]
def XS (A : Nat → Int) (n : Nat) : List (Int × Int) := (List.range n).map (fun i : Nat => ((i : Int), A i % 16))
def ZS (B : Nat → Int) (n : Nat) : List Int := (List.range n).map (fun i : Nat => B i % 18)
theorem XS_len (A : Nat → Int) (n : Nat) : (XS A n).length = n := by simp [XS]
theorem ZS_len (B : Nat → Int) (n : Nat) : (ZS B n).length = n := by simp [ZS]
theorem XS_succ (A : Nat → Int) (n : Nat) : XS A (n + 1) = XS A n ++ [((n : Int), A n % 16)] := by simp only [XS, List.range_succ, List.map_append, List.map_cons, List.map_nil]
theorem ZS_succ (B : Nat → Int) (n : Nat) : ZS B (n + 1) = ZS B n ++ [B n % 18] := by simp only [ZS, List.range_succ, List.map_append, List.map_cons, List.map_nil]
theorem flt_len (p : Int × Int → Bool) : ∀ l : List (Int × Int), (l.filter p).length + (l.filter (fun x => !p x)).length = l.length
  | [] => rfl
  | x :: l => by
    have := flt_len p l
    cases h : p x <;> simp [List.filter_cons, h] <;> omega
theorem rem8 {a m : Int} (h0 : 0 ≤ a) (hm : 0 < m) (hm2 : m ≤ 255) : xwr .u64 (xar .rem .u8 a m) = a % m := by
  have hb := Int.emod_nonneg a (b := m) (by omega)
  have hc := Int.emod_lt_of_pos a hm
  rw [xar_rem _ _ _ (by omega), Int.tmod_eq_emod_of_nonneg h0, wr_u64 hb (by omega)]
theorem lw_fun {mo : Int} (hm0 : 0 ≤ mo) (hm1 : mo ≤ 255) {na nb : Nat} (A B : Nat → Int) (hA : ∀ i, i < na → 0 ≤ A i ∧ A i ≤ 255) (hB : ∀ i, i < nb → 0 ≤ B i ∧ B i ≤ 255) :
    SFun Go.Proofs.Try.prog 5 [.slo 0 0 na 0, .slo 1 0 nb 0, .int .u8 mo] (mkS [.ro (tab (cI .u8) na A), .ro (tab (cI .u8) nb B)]) fun l _ => l = .bool true := by
  refine SFun.mono (SFun.pieces (Q := fun l _ => l = .bool true) 175 2 wL [6] (by kernel_rfl) rfl rfl rfl ?_) fun l s' ⟨b0, h1, _⟩ => h1
  have nax := noIds_cI .u8 na A
  have nbx := noIds_cI .u8 nb B
  refine SSp.to cxw_ok (n := 40) (g := []) 9 9 rfl (σ := {_k : Unit // na ≤ 40 ∧ nb ≤ 4}) (fun _ => w1T na nb 0 mo) (fun _ => w1H (tab (cI .u8) na A) (tab (cI .u8) nb B) 0 (encL cell (XS A 0))) (mkS_le (Nat.le_refl _)) (by kernel_rfl) ?_ fun ⟨_, ha, hb⟩ => ?_
  · rw [lw_a, xcm_gtr]
    refine ite_way (fun h => ⟨trivial, rfl, _, [.ro _, .ro _], [.id 0, .id 1], rfl, by (exact ⟨by kernel_rfl, by ((repeat refine okTms_cons (by (first | exact lw_any | exact lw_int | exact lw_bool | exact lw_ptr rfl | exact lw_slo rfl | exact lw_nilp | exact lw_nils | exact lw_str | exact lw_slo_nils | exact lw_slo_sle | exact lw_sl rfl | exact lw_unb | exact lw_gptr | exact lw_noid rfl | exact lw_cap rfl (Nat.le_refl _) | exact lw_cap rfl (by omega) | assumption)) ?_); exact okTms_nil), by ((repeat refine okBlks_cons (by (first | exact lb_dead | exact lb_same (by (first | assumption | exact noIds_tab (fun _ => rfl) _ _ | exact noIds_encL (fun _ => rfl) _ | rfl)) | exact lb_ro (by (first | assumption | exact noIds_tab (fun _ => rfl) _ _ | exact noIds_encL (fun _ => rfl) _ | rfl)) | exact lb_none | exact lb_cells (by ((repeat refine lws_cons (by (first | exact lw_any | exact lw_int | exact lw_bool | exact lw_ptr rfl | exact lw_slo rfl | exact lw_nilp | exact lw_nils | exact lw_str | exact lw_slo_nils | exact lw_slo_sle | exact lw_sl rfl | exact lw_unb | exact lw_gptr | exact lw_noid rfl | exact lw_cap rfl (Nat.le_refl _) | exact lw_cap rfl (by omega) | assumption)) ?_); exact lws_nil)) (by simp) | exact lb_iter | exact lb_cap (Nat.le_refl _) (Nat.le_refl _) rfl rfl | assumption)) ?_); exact okBlks_nil)⟩)⟩) (fun h => ?_)
    rw [xcm_gtr]
    refine ite_way (fun h => ⟨trivial, rfl, _, [.ro _, .ro _], [.id 0, .id 1], rfl, by (exact ⟨by kernel_rfl, by ((repeat refine okTms_cons (by (first | exact lw_any | exact lw_int | exact lw_bool | exact lw_ptr rfl | exact lw_slo rfl | exact lw_nilp | exact lw_nils | exact lw_str | exact lw_slo_nils | exact lw_slo_sle | exact lw_sl rfl | exact lw_unb | exact lw_gptr | exact lw_noid rfl | exact lw_cap rfl (Nat.le_refl _) | exact lw_cap rfl (by omega) | assumption)) ?_); exact okTms_nil), by ((repeat refine okBlks_cons (by (first | exact lb_dead | exact lb_same (by (first | assumption | exact noIds_tab (fun _ => rfl) _ _ | exact noIds_encL (fun _ => rfl) _ | rfl)) | exact lb_ro (by (first | assumption | exact noIds_tab (fun _ => rfl) _ _ | exact noIds_encL (fun _ => rfl) _ | rfl)) | exact lb_none | exact lb_cells (by ((repeat refine lws_cons (by (first | exact lw_any | exact lw_int | exact lw_bool | exact lw_ptr rfl | exact lw_slo rfl | exact lw_nilp | exact lw_nils | exact lw_str | exact lw_slo_nils | exact lw_slo_sle | exact lw_sl rfl | exact lw_unb | exact lw_gptr | exact lw_noid rfl | exact lw_cap rfl (Nat.le_refl _) | exact lw_cap rfl (by omega) | assumption)) ?_); exact lws_nil)) (by simp) | exact lb_iter | exact lb_cap (Nat.le_refl _) (Nat.le_refl _) rfl rfl | assumption)) ?_); exact okBlks_nil)⟩)⟩) (fun h => ?_)
    exact ⟨rfl, ⟨(), by omega, by omega⟩, [.id 0, .id 1, .id 2, .none], by (exact ⟨by kernel_rfl, by ((repeat refine okTms_cons (by (first | exact lw_any | exact lw_int | exact lw_bool | exact lw_ptr rfl | exact lw_slo rfl | exact lw_nilp | exact lw_nils | exact lw_str | exact lw_slo_nils | exact lw_slo_sle | exact lw_sl rfl | exact lw_unb | exact lw_gptr | exact lw_noid rfl | exact lw_cap rfl (Nat.le_refl _) | exact lw_cap rfl (by omega) | assumption)) ?_); exact okTms_nil), by ((repeat refine okBlks_cons (by (first | exact lb_dead | exact lb_same (by (first | assumption | exact noIds_tab (fun _ => rfl) _ _ | exact noIds_encL (fun _ => rfl) _ | rfl)) | exact lb_ro (by (first | assumption | exact noIds_tab (fun _ => rfl) _ _ | exact noIds_encL (fun _ => rfl) _ | rfl)) | exact lb_none | exact lb_cells (by ((repeat refine lws_cons (by (first | exact lw_any | exact lw_int | exact lw_bool | exact lw_ptr rfl | exact lw_slo rfl | exact lw_nilp | exact lw_nils | exact lw_str | exact lw_slo_nils | exact lw_slo_sle | exact lw_sl rfl | exact lw_unb | exact lw_gptr | exact lw_noid rfl | exact lw_cap rfl (Nat.le_refl _) | exact lw_cap rfl (by omega) | assumption)) ?_); exact lws_nil)) (by simp) | exact lb_iter | exact lb_cap (Nat.le_refl _) (Nat.le_refl _) rfl rfl | assumption)) ?_); exact okBlks_nil)⟩)⟩
  refine SSp.code_to (g := []) 10 rfl (σ := Unit) (fun _ => w1T na nb na mo) (fun _ => w1H (tab (cI .u8) na A) (tab (cI .u8) nb B) na (encL cell (XS A na))) (by kernel_rfl) ?_ fun _ => ?_
  · refine SCode.loop_vc cxw_ok (n := 40) 0 (by kernel_rfl) (σ := {k : Nat // k ≤ na}) (fun k => w1T na nb k.1 mo) (fun k => w1H (tab (cI .u8) na A) (tab (cI .u8) nb B) k.1 (encL cell (XS A k.1))) (fun k => na - k.1) (fun _ => Nat.le_of_ble_eq_true rfl) (fun ⟨k, hk⟩ => ?_) ⟨0, Nat.zero_le _⟩
    dsimp only
    have n1 := noids_c (XS A k)
    rw [lw_b, wd_lss]
    refine ite_way (fun h0 => ?_) (fun h0 => ?_)
    · obtain ⟨a0, a1⟩ := hA k h0
      have n2 := noids_c (XS A (k + 1))
      have ok := okC_enc (xs := XS A k) (by rw [XS_len]; omega)
      rw [XS_len] at ok
      have ok2 : okIi64 [.int .i64 ↑k] 1 = true := okIi64_enc (xs := [(k : Int)]) (by simp)
      simp only [wd_nat, wd_ix, wd_add, wd_mul, wd_ln, Nat.zero_add, Nat.mul_one, wd_isI, wd_asI, wd_isB, wd_asB, wd_nn, cI_tlen, cB_tlen, cII_tlen, decide_true, cond_true, wd_not_t, wd_not_f, wd_and_t, wd_and_f, cI_nth .u8 A h0, inc_i64 h0 (show na ≤ 9223372036854775807 by omega), ok, ok2, rem8 a0 (show (0 : Int) < 16 by omega) (by omega), addC_e]
      (repeat (with_reducible refine must (by (first | with_reducible rfl | exact t_le (by omega) | exact t_eq (by omega) | exact t_nn (by omega) | exact t_lss (by omega) | exact t_leq (by omega) | exact t_gtr (by omega) | exact t_geq (by omega) | exact t_eql (by omega) | exact t_neq (by omega) | exact t_z (by omega) | exact wd_not_f | assumption)) ?_))
      exact ⟨rfl, ⟨k + 1, h0⟩, by simp only; omega, [.id 0, .id 1, .id 2, .id 5], by rw [← XS_succ]; (exact ⟨by kernel_rfl, by ((repeat refine okTms_cons (by (first | exact lw_any | exact lw_int | exact lw_bool | exact lw_ptr rfl | exact lw_slo rfl | exact lw_nilp | exact lw_nils | exact lw_str | exact lw_slo_nils | exact lw_slo_sle | exact lw_sl rfl | exact lw_unb | exact lw_gptr | exact lw_noid rfl | exact lw_cap rfl (Nat.le_refl _) | exact lw_cap rfl (by omega) | assumption)) ?_); exact okTms_nil), by ((repeat refine okBlks_cons (by (first | exact lb_dead | exact lb_same (by (first | assumption | exact noIds_tab (fun _ => rfl) _ _ | exact noIds_encL (fun _ => rfl) _ | rfl)) | exact lb_ro (by (first | assumption | exact noIds_tab (fun _ => rfl) _ _ | exact noIds_encL (fun _ => rfl) _ | rfl)) | exact lb_none | exact lb_cells (by ((repeat refine lws_cons (by (first | exact lw_any | exact lw_int | exact lw_bool | exact lw_ptr rfl | exact lw_slo rfl | exact lw_nilp | exact lw_nils | exact lw_str | exact lw_slo_nils | exact lw_slo_sle | exact lw_sl rfl | exact lw_unb | exact lw_gptr | exact lw_noid rfl | exact lw_cap rfl (Nat.le_refl _) | exact lw_cap rfl (by omega) | assumption)) ?_); exact lws_nil)) (by simp) | exact lb_iter | exact lb_cap (Nat.le_refl _) (Nat.le_refl _) rfl rfl | assumption)) ?_); exact okBlks_nil)⟩)⟩
    · obtain rfl : k = na := by omega
      exact ⟨rfl, (), [.id 0, .id 1, .id 2, .id 3], by (exact ⟨by kernel_rfl, by ((repeat refine okTms_cons (by (first | exact lw_any | exact lw_int | exact lw_bool | exact lw_ptr rfl | exact lw_slo rfl | exact lw_nilp | exact lw_nils | exact lw_str | exact lw_slo_nils | exact lw_slo_sle | exact lw_sl rfl | exact lw_unb | exact lw_gptr | exact lw_noid rfl | exact lw_cap rfl (Nat.le_refl _) | exact lw_cap rfl (by omega) | assumption)) ?_); exact okTms_nil), by ((repeat refine okBlks_cons (by (first | exact lb_dead | exact lb_same (by (first | assumption | exact noIds_tab (fun _ => rfl) _ _ | exact noIds_encL (fun _ => rfl) _ | rfl)) | exact lb_ro (by (first | assumption | exact noIds_tab (fun _ => rfl) _ _ | exact noIds_encL (fun _ => rfl) _ | rfl)) | exact lb_none | exact lb_cells (by ((repeat refine lws_cons (by (first | exact lw_any | exact lw_int | exact lw_bool | exact lw_ptr rfl | exact lw_slo rfl | exact lw_nilp | exact lw_nils | exact lw_str | exact lw_slo_nils | exact lw_slo_sle | exact lw_sl rfl | exact lw_unb | exact lw_gptr | exact lw_noid rfl | exact lw_cap rfl (Nat.le_refl _) | exact lw_cap rfl (by omega) | assumption)) ?_); exact lws_nil)) (by simp) | exact lb_iter | exact lb_cap (Nat.le_refl _) (Nat.le_refl _) rfl rfl | assumption)) ?_); exact okBlks_nil)⟩)⟩
  have nX := noids_c (XS A na)
  refine SSp.to cxw_ok (n := 40) (g := []) 2 12 rfl (σ := Unit) (fun _ => w2T na nb 0 mo) (fun _ => w2H (tab (cI .u8) na A) (tab (cI .u8) nb B) na (encL cell (XS A na)) (encL (cI .u64) (ZS B 0))) (mkS_le (by simp)) (by kernel_rfl) ?_ fun _ => ?_
  · rw [lw_c]
    exact ⟨rfl, (), [.id 0, .id 1, .id 2, .id 3, .none], by (exact ⟨by kernel_rfl, by ((repeat refine okTms_cons (by (first | exact lw_any | exact lw_int | exact lw_bool | exact lw_ptr rfl | exact lw_slo rfl | exact lw_nilp | exact lw_nils | exact lw_str | exact lw_slo_nils | exact lw_slo_sle | exact lw_sl rfl | exact lw_unb | exact lw_gptr | exact lw_noid rfl | exact lw_cap rfl (Nat.le_refl _) | exact lw_cap rfl (by omega) | assumption)) ?_); exact okTms_nil), by ((repeat refine okBlks_cons (by (first | exact lb_dead | exact lb_same (by (first | assumption | exact noIds_tab (fun _ => rfl) _ _ | exact noIds_encL (fun _ => rfl) _ | rfl)) | exact lb_ro (by (first | assumption | exact noIds_tab (fun _ => rfl) _ _ | exact noIds_encL (fun _ => rfl) _ | rfl)) | exact lb_none | exact lb_cells (by ((repeat refine lws_cons (by (first | exact lw_any | exact lw_int | exact lw_bool | exact lw_ptr rfl | exact lw_slo rfl | exact lw_nilp | exact lw_nils | exact lw_str | exact lw_slo_nils | exact lw_slo_sle | exact lw_sl rfl | exact lw_unb | exact lw_gptr | exact lw_noid rfl | exact lw_cap rfl (Nat.le_refl _) | exact lw_cap rfl (by omega) | assumption)) ?_); exact lws_nil)) (by simp) | exact lb_iter | exact lb_cap (Nat.le_refl _) (Nat.le_refl _) rfl rfl | assumption)) ?_); exact okBlks_nil)⟩)⟩
  refine SSp.code_to (g := []) 13 rfl (σ := Unit) (fun _ => w2T na nb nb mo) (fun _ => w2H (tab (cI .u8) na A) (tab (cI .u8) nb B) na (encL cell (XS A na)) (encL (cI .u64) (ZS B nb))) (by kernel_rfl) ?_ fun _ => ?_
  · refine SCode.loop_vc cxw_ok (n := 40) 2 (by kernel_rfl) (σ := {k : Nat // k ≤ nb}) (fun k => w2T na nb k.1 mo) (fun k => w2H (tab (cI .u8) na A) (tab (cI .u8) nb B) na (encL cell (XS A na)) (encL (cI .u64) (ZS B k.1))) (fun k => nb - k.1) (fun _ => Nat.le_of_ble_eq_true rfl) (fun ⟨k, hk⟩ => ?_) ⟨0, Nat.zero_le _⟩
    dsimp only
    have n1 := noIds_Iu64 (ZS B k)
    rw [lw_d, wd_lss]
    refine ite_way (fun h0 => ?_) (fun h0 => ?_)
    · obtain ⟨a0, a1⟩ := hB k h0
      have n2 := noIds_Iu64 (ZS B (k + 1))
      have pu := encIu64_push (ZS B k) (B k % 18)
      rw [ZS_len] at pu
      simp only [wd_nat, wd_ix, wd_add, wd_mul, wd_ln, Nat.zero_add, Nat.mul_one, wd_isI, wd_asI, wd_isB, wd_asB, wd_nn, cI_tlen, cB_tlen, cII_tlen, decide_true, cond_true, wd_not_t, wd_not_f, wd_and_t, wd_and_f, cI_nth .u8 B h0, inc_i64 h0 (show nb ≤ 9223372036854775807 by omega), rem8 a0 (show (0 : Int) < 18 by omega) (by omega), encIu64_len, ZS_len, pu]
      (repeat (with_reducible refine must (by (first | with_reducible rfl | exact t_le (by omega) | exact t_eq (by omega) | exact t_nn (by omega) | exact t_lss (by omega) | exact t_leq (by omega) | exact t_gtr (by omega) | exact t_geq (by omega) | exact t_eql (by omega) | exact t_neq (by omega) | exact t_z (by omega) | exact wd_not_f | assumption)) ?_))
      exact ⟨rfl, ⟨k + 1, h0⟩, by simp only; omega, [.id 0, .id 1, .id 2, .id 3, .id 6], by rw [← ZS_succ]; (exact ⟨by kernel_rfl, by ((repeat refine okTms_cons (by (first | exact lw_any | exact lw_int | exact lw_bool | exact lw_ptr rfl | exact lw_slo rfl | exact lw_nilp | exact lw_nils | exact lw_str | exact lw_slo_nils | exact lw_slo_sle | exact lw_sl rfl | exact lw_unb | exact lw_gptr | exact lw_noid rfl | exact lw_cap rfl (Nat.le_refl _) | exact lw_cap rfl (by omega) | assumption)) ?_); exact okTms_nil), by ((repeat refine okBlks_cons (by (first | exact lb_dead | exact lb_same (by (first | assumption | exact noIds_tab (fun _ => rfl) _ _ | exact noIds_encL (fun _ => rfl) _ | rfl)) | exact lb_ro (by (first | assumption | exact noIds_tab (fun _ => rfl) _ _ | exact noIds_encL (fun _ => rfl) _ | rfl)) | exact lb_none | exact lb_cells (by ((repeat refine lws_cons (by (first | exact lw_any | exact lw_int | exact lw_bool | exact lw_ptr rfl | exact lw_slo rfl | exact lw_nilp | exact lw_nils | exact lw_str | exact lw_slo_nils | exact lw_slo_sle | exact lw_sl rfl | exact lw_unb | exact lw_gptr | exact lw_noid rfl | exact lw_cap rfl (Nat.le_refl _) | exact lw_cap rfl (by omega) | assumption)) ?_); exact lws_nil)) (by simp) | exact lb_iter | exact lb_cap (Nat.le_refl _) (Nat.le_refl _) rfl rfl | assumption)) ?_); exact okBlks_nil)⟩)⟩
    · obtain rfl : k = nb := by omega
      exact ⟨rfl, (), [.id 0, .id 1, .id 2, .id 3, .id 4], by (exact ⟨by kernel_rfl, by ((repeat refine okTms_cons (by (first | exact lw_any | exact lw_int | exact lw_bool | exact lw_ptr rfl | exact lw_slo rfl | exact lw_nilp | exact lw_nils | exact lw_str | exact lw_slo_nils | exact lw_slo_sle | exact lw_sl rfl | exact lw_unb | exact lw_gptr | exact lw_noid rfl | exact lw_cap rfl (Nat.le_refl _) | exact lw_cap rfl (by omega) | assumption)) ?_); exact okTms_nil), by ((repeat refine okBlks_cons (by (first | exact lb_dead | exact lb_same (by (first | assumption | exact noIds_tab (fun _ => rfl) _ _ | exact noIds_encL (fun _ => rfl) _ | rfl)) | exact lb_ro (by (first | assumption | exact noIds_tab (fun _ => rfl) _ _ | exact noIds_encL (fun _ => rfl) _ | rfl)) | exact lb_none | exact lb_cells (by ((repeat refine lws_cons (by (first | exact lw_any | exact lw_int | exact lw_bool | exact lw_ptr rfl | exact lw_slo rfl | exact lw_nilp | exact lw_nils | exact lw_str | exact lw_slo_nils | exact lw_slo_sle | exact lw_sl rfl | exact lw_unb | exact lw_gptr | exact lw_noid rfl | exact lw_cap rfl (Nat.le_refl _) | exact lw_cap rfl (by omega) | assumption)) ?_); exact lws_nil)) (by simp) | exact lb_iter | exact lb_cap (Nat.le_refl _) (Nat.le_refl _) rfl rfl | assumption)) ?_); exact okBlks_nil)⟩)⟩
  have hX : ∀ x ∈ XS A na, ∃ j : Nat, j < na ∧ x = ((j : Int), A j % 16) := fun x hx => by
    simp only [XS, List.mem_map, List.mem_range] at hx
    obtain ⟨j, h1, h2⟩ := hx
    exact ⟨j, h1, h2.symm⟩
  have pX : (XS A na).Pairwise (fun a b => a.1 < b.1) := by
    simp only [XS, List.pairwise_map]
    exact List.pairwise_lt_range.imp fun h => Int.ofNat_lt.2 h
  have lX := XS_len A na
  have lZ := ZS_len B nb
  have nZ := noIds_Iu64 (ZS B nb)
  have okX := okC_enc (xs := XS A na) (by rw [lX]; omega)
  have okZ := okIu64_enc (xs := ZS B nb) (by rw [lZ]; omega)
  rw [lX] at okX
  rw [lZ] at okZ
  generalize XS A na = X at *
  generalize ZS B nb = Z at *
  have fl := flt_len (fun x => psd Z x.2) X
  have nF := noids_c (X.filter (fun x => psd Z x.2))
  have nG := noids_c (X.filter (fun x => !psd Z x.2))
  refine SSp.to cxw_ok (n := 40) (g := []) 2 15 rfl (σ := Unit) (fun _ => w3T na nb (X.filter (fun x => psd Z x.2)).length 0 mo) (fun _ => w3H (tab (cI .u8) na A) (tab (cI .u8) nb B) (X.filter (fun x => !psd Z x.2)).length (encL cell (X.filter (fun x => !psd Z x.2))) (encL (cI .u64) Z) (encL cell (X.filter (fun x => psd Z x.2)))) (mkS_le (by simp)) (by kernel_rfl) ?_ fun _ => ?_
  · rw [lw_e]
    simp only [wd_nat, wd_ix, wd_add, wd_mul, wd_ln, Nat.zero_add, Nat.mul_one, wd_isI, wd_asI, wd_isB, wd_asB, wd_nn, cI_tlen, cB_tlen, cII_tlen, decide_true, cond_true, wd_not_t, wd_not_f, wd_and_t, wd_and_f, okX, okZ, ripC_e, ripN_e, rstC_e, rstN_e]
    (repeat (with_reducible refine must (by (first | with_reducible rfl | exact t_le (by omega) | exact t_eq (by omega) | exact t_nn (by omega) | exact t_lss (by omega) | exact t_leq (by omega) | exact t_gtr (by omega) | exact t_geq (by omega) | exact t_eql (by omega) | exact t_neq (by omega) | exact t_z (by omega) | exact wd_not_f | assumption)) ?_))
    exact ⟨rfl, (), [.id 0, .id 1, .id 2, .id 6, .id 4, .id 5], by (exact ⟨by kernel_rfl, by ((repeat refine okTms_cons (by (first | exact lw_any | exact lw_int | exact lw_bool | exact lw_ptr rfl | exact lw_slo rfl | exact lw_nilp | exact lw_nils | exact lw_str | exact lw_slo_nils | exact lw_slo_sle | exact lw_sl rfl | exact lw_unb | exact lw_gptr | exact lw_noid rfl | exact lw_cap rfl (Nat.le_refl _) | exact lw_cap rfl (by omega) | assumption)) ?_); exact okTms_nil), by ((repeat refine okBlks_cons (by (first | exact lb_dead | exact lb_same (by (first | assumption | exact noIds_tab (fun _ => rfl) _ _ | exact noIds_encL (fun _ => rfl) _ | rfl)) | exact lb_ro (by (first | assumption | exact noIds_tab (fun _ => rfl) _ _ | exact noIds_encL (fun _ => rfl) _ | rfl)) | exact lb_none | exact lb_cells (by ((repeat refine lws_cons (by (first | exact lw_any | exact lw_int | exact lw_bool | exact lw_ptr rfl | exact lw_slo rfl | exact lw_nilp | exact lw_nils | exact lw_str | exact lw_slo_nils | exact lw_slo_sle | exact lw_sl rfl | exact lw_unb | exact lw_gptr | exact lw_noid rfl | exact lw_cap rfl (Nat.le_refl _) | exact lw_cap rfl (by omega) | assumption)) ?_); exact lws_nil)) (by simp) | exact lb_iter | exact lb_cap (Nat.le_refl _) (Nat.le_refl _) rfl rfl | assumption)) ?_); exact okBlks_nil)⟩)⟩
  refine SSp.code_to (g := []) 16 rfl (σ := Unit) (fun _ => w3T na nb (X.filter (fun x => psd Z x.2)).length (X.filter (fun x => psd Z x.2)).length mo) (fun _ => w3H (tab (cI .u8) na A) (tab (cI .u8) nb B) (X.filter (fun x => !psd Z x.2)).length (encL cell (X.filter (fun x => !psd Z x.2))) (encL (cI .u64) Z) (encL cell (X.filter (fun x => psd Z x.2)))) (by kernel_rfl) ?_ fun _ => ?_
  · have hF : ∀ x ∈ X.filter (fun x => psd Z x.2), psd Z x.2 = true ∧ ∃ j : Nat, j < na ∧ x = ((j : Int), A j % 16) := fun x hx => by
      obtain ⟨h1, h2⟩ := List.mem_filter.1 hx
      exact ⟨h2, hX x h1⟩
    have pF := List.pairwise_iff_getElem.1 (pX.filter (fun x => psd Z x.2))
    generalize X.filter (fun x => psd Z x.2) = F at *
    generalize X.filter (fun x => !psd Z x.2) = G at *
    refine SCode.loop_vc cxw_ok (n := 40) 4 (by kernel_rfl) (σ := {k : Nat // k ≤ F.length}) (fun k => w3T na nb F.length k.1 mo) (fun k => w3H (tab (cI .u8) na A) (tab (cI .u8) nb B) G.length (encL cell G) (encL (cI .u64) Z) (encL cell F)) (fun k => F.length - k.1) (fun _ => Nat.le_of_ble_eq_true rfl) (fun ⟨k, hk⟩ => ?_) ⟨0, Nat.zero_le _⟩
    dsimp only
    rw [lw_f, wd_lss]
    refine ite_way (fun h0 => ?_) (fun h0 => ?_)
    · obtain ⟨hp, j, hj, ej⟩ := hF F[k] (List.getElem_mem h0)
      obtain ⟨a0, a1⟩ := hA j hj
      rw [ej] at hp
      have hr := rem8 a0 (show (0 : Int) < 16 by omega) (by omega)
      simp only [wd_nat, wd_ix, wd_add, wd_mul, wd_ln, Nat.zero_add, Nat.mul_one, wd_isI, wd_asI, wd_isB, wd_asB, wd_nn, cI_tlen, cB_tlen, cII_tlen, decide_true, cond_true, wd_not_t, wd_not_f, wd_and_t, wd_and_f, cell_0 h0, cell_1 h0, cell_n, ej, okZ, psdW_e, hp, cond_false, cI_nth .u8 A hj, hr, inc_i64 h0 (show F.length ≤ 9223372036854775807 by omega)]
      (repeat (with_reducible refine must (by (first | with_reducible rfl | exact t_le (by omega) | exact t_eq (by omega) | exact t_nn (by omega) | exact t_lss (by omega) | exact t_leq (by omega) | exact t_gtr (by omega) | exact t_geq (by omega) | exact t_eql (by omega) | exact t_neq (by omega) | exact t_z (by omega) | exact wd_not_f | assumption)) ?_))
      (with_reducible refine way_f (by (first | with_reducible rfl | exact f_le (by omega) | exact f_eq (by omega) | exact f_nn (by omega) | exact f_lss (by omega) | exact f_leq (by omega) | exact f_gtr (by omega) | exact f_geq (by omega) | exact f_eql (by omega) | exact f_neq (by omega) | exact f_z (by omega) | exact wd_not_t | assumption)) ?_)
      (repeat (with_reducible refine must (by (first | with_reducible rfl | exact t_le (by omega) | exact t_eq (by omega) | exact t_nn (by omega) | exact t_lss (by omega) | exact t_leq (by omega) | exact t_gtr (by omega) | exact t_geq (by omega) | exact t_eql (by omega) | exact t_neq (by omega) | exact t_z (by omega) | exact wd_not_f | assumption)) ?_))
      (with_reducible refine way_f (by (first | with_reducible rfl | exact f_le (by omega) | exact f_eq (by omega) | exact f_nn (by omega) | exact f_lss (by omega) | exact f_leq (by omega) | exact f_gtr (by omega) | exact f_geq (by omega) | exact f_eql (by omega) | exact f_neq (by omega) | exact f_z (by omega) | exact wd_not_t | assumption)) ?_)
      (repeat (with_reducible refine must (by (first | with_reducible rfl | exact t_le (by omega) | exact t_eq (by omega) | exact t_nn (by omega) | exact t_lss (by omega) | exact t_leq (by omega) | exact t_gtr (by omega) | exact t_geq (by omega) | exact t_eql (by omega) | exact t_neq (by omega) | exact t_z (by omega) | exact wd_not_f | assumption)) ?_))
      (with_reducible refine way_f (by (first | with_reducible rfl | exact f_le (by omega) | exact f_eq (by omega) | exact f_nn (by omega) | exact f_lss (by omega) | exact f_leq (by omega) | exact f_gtr (by omega) | exact f_geq (by omega) | exact f_eql (by omega) | exact f_neq (by omega) | exact f_z (by omega) | exact wd_not_t | assumption)) ?_)
      rw [xcm_gtr]
      refine ite_way (fun hk0 => ?_) (fun hk0 => ?_)
      · have hs : xar .sub .i64 (k : Int) 1 = ((k - 1 : Nat) : Int) := by rw [sub_i64 (by omega) (by omega)]; omega
        have hk1 : k - 1 < F.length := by omega
        have hlt := pF (k - 1) k hk1 h0 (by omega)
        rw [ej] at hlt
        simp only [wd_nat, wd_ix, wd_add, wd_mul, wd_ln, Nat.zero_add, Nat.mul_one, wd_isI, wd_asI, wd_isB, wd_asB, wd_nn, cI_tlen, cB_tlen, cII_tlen, decide_true, cond_true, wd_not_t, wd_not_f, wd_and_t, wd_and_f, hs, cell_0 hk1]
        (repeat (with_reducible refine must (by (first | with_reducible rfl | exact t_le (by omega) | exact t_eq (by omega) | exact t_nn (by omega) | exact t_lss (by omega) | exact t_leq (by omega) | exact t_gtr (by omega) | exact t_geq (by omega) | exact t_eql (by omega) | exact t_neq (by omega) | exact t_z (by omega) | exact wd_not_f | assumption)) ?_))
        (with_reducible refine way_f (by (first | with_reducible rfl | exact f_le (by omega) | exact f_eq (by omega) | exact f_nn (by omega) | exact f_lss (by omega) | exact f_leq (by omega) | exact f_gtr (by omega) | exact f_geq (by omega) | exact f_eql (by omega) | exact f_neq (by omega) | exact f_z (by omega) | exact wd_not_t | assumption)) ?_)
        exact ⟨rfl, ⟨k + 1, h0⟩, by simp only; omega, [.id 0, .id 1, .id 2, .id 3, .id 4, .id 5], by (exact ⟨by kernel_rfl, by ((repeat refine okTms_cons (by (first | exact lw_any | exact lw_int | exact lw_bool | exact lw_ptr rfl | exact lw_slo rfl | exact lw_nilp | exact lw_nils | exact lw_str | exact lw_slo_nils | exact lw_slo_sle | exact lw_sl rfl | exact lw_unb | exact lw_gptr | exact lw_noid rfl | exact lw_cap rfl (Nat.le_refl _) | exact lw_cap rfl (by omega) | assumption)) ?_); exact okTms_nil), by ((repeat refine okBlks_cons (by (first | exact lb_dead | exact lb_same (by (first | assumption | exact noIds_tab (fun _ => rfl) _ _ | exact noIds_encL (fun _ => rfl) _ | rfl)) | exact lb_ro (by (first | assumption | exact noIds_tab (fun _ => rfl) _ _ | exact noIds_encL (fun _ => rfl) _ | rfl)) | exact lb_none | exact lb_cells (by ((repeat refine lws_cons (by (first | exact lw_any | exact lw_int | exact lw_bool | exact lw_ptr rfl | exact lw_slo rfl | exact lw_nilp | exact lw_nils | exact lw_str | exact lw_slo_nils | exact lw_slo_sle | exact lw_sl rfl | exact lw_unb | exact lw_gptr | exact lw_noid rfl | exact lw_cap rfl (Nat.le_refl _) | exact lw_cap rfl (by omega) | assumption)) ?_); exact lws_nil)) (by simp) | exact lb_iter | exact lb_cap (Nat.le_refl _) (Nat.le_refl _) rfl rfl | assumption)) ?_); exact okBlks_nil)⟩)⟩
      · (repeat (with_reducible refine must (by (first | with_reducible rfl | exact t_le (by omega) | exact t_eq (by omega) | exact t_nn (by omega) | exact t_lss (by omega) | exact t_leq (by omega) | exact t_gtr (by omega) | exact t_geq (by omega) | exact t_eql (by omega) | exact t_neq (by omega) | exact t_z (by omega) | exact wd_not_f | assumption)) ?_))
        exact ⟨rfl, ⟨k + 1, h0⟩, by simp only; omega, [.id 0, .id 1, .id 2, .id 3, .id 4, .id 5], by (exact ⟨by kernel_rfl, by ((repeat refine okTms_cons (by (first | exact lw_any | exact lw_int | exact lw_bool | exact lw_ptr rfl | exact lw_slo rfl | exact lw_nilp | exact lw_nils | exact lw_str | exact lw_slo_nils | exact lw_slo_sle | exact lw_sl rfl | exact lw_unb | exact lw_gptr | exact lw_noid rfl | exact lw_cap rfl (Nat.le_refl _) | exact lw_cap rfl (by omega) | assumption)) ?_); exact okTms_nil), by ((repeat refine okBlks_cons (by (first | exact lb_dead | exact lb_same (by (first | assumption | exact noIds_tab (fun _ => rfl) _ _ | exact noIds_encL (fun _ => rfl) _ | rfl)) | exact lb_ro (by (first | assumption | exact noIds_tab (fun _ => rfl) _ _ | exact noIds_encL (fun _ => rfl) _ | rfl)) | exact lb_none | exact lb_cells (by ((repeat refine lws_cons (by (first | exact lw_any | exact lw_int | exact lw_bool | exact lw_ptr rfl | exact lw_slo rfl | exact lw_nilp | exact lw_nils | exact lw_str | exact lw_slo_nils | exact lw_slo_sle | exact lw_sl rfl | exact lw_unb | exact lw_gptr | exact lw_noid rfl | exact lw_cap rfl (Nat.le_refl _) | exact lw_cap rfl (by omega) | assumption)) ?_); exact lws_nil)) (by simp) | exact lb_iter | exact lb_cap (Nat.le_refl _) (Nat.le_refl _) rfl rfl | assumption)) ?_); exact okBlks_nil)⟩)⟩
    · obtain rfl : k = F.length := by omega
      exact ⟨rfl, (), [.id 0, .id 1, .id 2, .id 3, .id 4, .id 5], by (exact ⟨by kernel_rfl, by ((repeat refine okTms_cons (by (first | exact lw_any | exact lw_int | exact lw_bool | exact lw_ptr rfl | exact lw_slo rfl | exact lw_nilp | exact lw_nils | exact lw_str | exact lw_slo_nils | exact lw_slo_sle | exact lw_sl rfl | exact lw_unb | exact lw_gptr | exact lw_noid rfl | exact lw_cap rfl (Nat.le_refl _) | exact lw_cap rfl (by omega) | assumption)) ?_); exact okTms_nil), by ((repeat refine okBlks_cons (by (first | exact lb_dead | exact lb_same (by (first | assumption | exact noIds_tab (fun _ => rfl) _ _ | exact noIds_encL (fun _ => rfl) _ | rfl)) | exact lb_ro (by (first | assumption | exact noIds_tab (fun _ => rfl) _ _ | exact noIds_encL (fun _ => rfl) _ | rfl)) | exact lb_none | exact lb_cells (by ((repeat refine lws_cons (by (first | exact lw_any | exact lw_int | exact lw_bool | exact lw_ptr rfl | exact lw_slo rfl | exact lw_nilp | exact lw_nils | exact lw_str | exact lw_slo_nils | exact lw_slo_sle | exact lw_sl rfl | exact lw_unb | exact lw_gptr | exact lw_noid rfl | exact lw_cap rfl (Nat.le_refl _) | exact lw_cap rfl (by omega) | assumption)) ?_); exact lws_nil)) (by simp) | exact lb_iter | exact lb_cap (Nat.le_refl _) (Nat.le_refl _) rfl rfl | assumption)) ?_); exact okBlks_nil)⟩)⟩
  have hG : ∀ x ∈ X.filter (fun x => !psd Z x.2), psd Z x.2 = false ∧ ∃ j : Nat, j < na ∧ x = ((j : Int), A j % 16) := fun x hx => by
    obtain ⟨h1, h2⟩ := List.mem_filter.1 hx
    exact ⟨by simpa using h2, hX x h1⟩
  have g1 : (X.filter (fun x => !psd Z x.2)).filter (fun x => psd Z x.2) = [] := List.filter_eq_nil_iff.2 fun x hx => by rw [(hG x hx).1]; exact Bool.false_ne_true
  have g2 : (X.filter (fun x => !psd Z x.2)).filter (fun x => !psd Z x.2) = X.filter (fun x => !psd Z x.2) := List.filter_eq_self.2 fun x hx => by rw [(hG x hx).1]; rfl
  generalize X.filter (fun x => psd Z x.2) = F at *
  generalize X.filter (fun x => !psd Z x.2) = G at *
  have okG := okC_enc (xs := G) (by omega)
  refine SSp.to cxw_ok (n := 40) (g := []) 2 18 rfl (σ := Unit) (fun _ => w4T na nb F.length G.length 0 mo) (fun _ => w4H (tab (cI .u8) na A) (tab (cI .u8) nb B) G.length (encL cell G) (encL (cI .u64) Z) (encL cell F)) (mkS_le (by simp)) (by kernel_rfl) ?_ fun _ => ?_
  · rw [lw_g]
    simp only [wd_nat, wd_ix, wd_add, wd_mul, wd_ln, Nat.zero_add, Nat.mul_one, wd_isI, wd_asI, wd_isB, wd_asB, wd_nn, cI_tlen, cB_tlen, cII_tlen, decide_true, cond_true, wd_not_t, wd_not_f, wd_and_t, wd_and_f, cell_n, xnoid_c]
    (repeat (with_reducible refine must (by (first | with_reducible rfl | exact t_le (by omega) | exact t_eq (by omega) | exact t_nn (by omega) | exact t_lss (by omega) | exact t_leq (by omega) | exact t_gtr (by omega) | exact t_geq (by omega) | exact t_eql (by omega) | exact t_neq (by omega) | exact t_z (by omega) | exact wd_not_f | assumption)) ?_))
    exact ⟨rfl, (), [.id 0, .id 1, .id 2, .id 3, .id 4, .id 5, .id 6], by (exact ⟨by kernel_rfl, by ((repeat refine okTms_cons (by (first | exact lw_any | exact lw_int | exact lw_bool | exact lw_ptr rfl | exact lw_slo rfl | exact lw_nilp | exact lw_nils | exact lw_str | exact lw_slo_nils | exact lw_slo_sle | exact lw_sl rfl | exact lw_unb | exact lw_gptr | exact lw_noid rfl | exact lw_cap rfl (Nat.le_refl _) | exact lw_cap rfl (by omega) | assumption)) ?_); exact okTms_nil), by ((repeat refine okBlks_cons (by (first | exact lb_dead | exact lb_same (by (first | assumption | exact noIds_tab (fun _ => rfl) _ _ | exact noIds_encL (fun _ => rfl) _ | rfl)) | exact lb_ro (by (first | assumption | exact noIds_tab (fun _ => rfl) _ _ | exact noIds_encL (fun _ => rfl) _ | rfl)) | exact lb_none | exact lb_cells (by ((repeat refine lws_cons (by (first | exact lw_any | exact lw_int | exact lw_bool | exact lw_ptr rfl | exact lw_slo rfl | exact lw_nilp | exact lw_nils | exact lw_str | exact lw_slo_nils | exact lw_slo_sle | exact lw_sl rfl | exact lw_unb | exact lw_gptr | exact lw_noid rfl | exact lw_cap rfl (Nat.le_refl _) | exact lw_cap rfl (by omega) | assumption)) ?_); exact lws_nil)) (by simp) | exact lb_iter | exact lb_cap (Nat.le_refl _) (Nat.le_refl _) rfl rfl | assumption)) ?_); exact okBlks_nil)⟩)⟩
  refine SSp.code_to (g := []) 19 rfl (σ := Unit) (fun _ => w4T na nb F.length G.length G.length mo) (fun _ => w4H (tab (cI .u8) na A) (tab (cI .u8) nb B) G.length (encL cell G) (encL (cI .u64) Z) (encL cell F)) (by kernel_rfl) ?_ fun _ => ?_
  · refine SCode.loop_vc cxw_ok (n := 40) 6 (by kernel_rfl) (σ := {k : Nat // k ≤ G.length}) (fun k => w4T na nb F.length G.length k.1 mo) (fun k => w4H (tab (cI .u8) na A) (tab (cI .u8) nb B) G.length (encL cell G) (encL (cI .u64) Z) (encL cell F)) (fun k => G.length - k.1) (fun _ => Nat.le_of_ble_eq_true rfl) (fun ⟨k, hk⟩ => ?_) ⟨0, Nat.zero_le _⟩
    dsimp only
    rw [lw_h, wd_lss]
    refine ite_way (fun h0 => ?_) (fun h0 => ?_)
    · obtain ⟨hp, _⟩ := hG G[k] (List.getElem_mem h0)
      simp only [wd_nat, wd_ix, wd_add, wd_mul, wd_ln, Nat.zero_add, Nat.mul_one, wd_isI, wd_asI, wd_isB, wd_asB, wd_nn, cI_tlen, cB_tlen, cII_tlen, decide_true, cond_true, wd_not_t, wd_not_f, wd_and_t, wd_and_f, cell_0 h0, cell_1 h0, cell_n, okZ, psdW_e, hp, cond_false, inc_i64 h0 (show G.length ≤ 9223372036854775807 by omega)]
      (repeat (with_reducible refine must (by (first | with_reducible rfl | exact t_le (by omega) | exact t_eq (by omega) | exact t_nn (by omega) | exact t_lss (by omega) | exact t_leq (by omega) | exact t_gtr (by omega) | exact t_geq (by omega) | exact t_eql (by omega) | exact t_neq (by omega) | exact t_z (by omega) | exact wd_not_f | assumption)) ?_))
      exact ⟨rfl, ⟨k + 1, h0⟩, by simp only; omega, [.id 0, .id 1, .id 2, .id 3, .id 4, .id 5, .id 6], by (exact ⟨by kernel_rfl, by ((repeat refine okTms_cons (by (first | exact lw_any | exact lw_int | exact lw_bool | exact lw_ptr rfl | exact lw_slo rfl | exact lw_nilp | exact lw_nils | exact lw_str | exact lw_slo_nils | exact lw_slo_sle | exact lw_sl rfl | exact lw_unb | exact lw_gptr | exact lw_noid rfl | exact lw_cap rfl (Nat.le_refl _) | exact lw_cap rfl (by omega) | assumption)) ?_); exact okTms_nil), by ((repeat refine okBlks_cons (by (first | exact lb_dead | exact lb_same (by (first | assumption | exact noIds_tab (fun _ => rfl) _ _ | exact noIds_encL (fun _ => rfl) _ | rfl)) | exact lb_ro (by (first | assumption | exact noIds_tab (fun _ => rfl) _ _ | exact noIds_encL (fun _ => rfl) _ | rfl)) | exact lb_none | exact lb_cells (by ((repeat refine lws_cons (by (first | exact lw_any | exact lw_int | exact lw_bool | exact lw_ptr rfl | exact lw_slo rfl | exact lw_nilp | exact lw_nils | exact lw_str | exact lw_slo_nils | exact lw_slo_sle | exact lw_sl rfl | exact lw_unb | exact lw_gptr | exact lw_noid rfl | exact lw_cap rfl (Nat.le_refl _) | exact lw_cap rfl (by omega) | assumption)) ?_); exact lws_nil)) (by simp) | exact lb_iter | exact lb_cap (Nat.le_refl _) (Nat.le_refl _) rfl rfl | assumption)) ?_); exact okBlks_nil)⟩)⟩
    · obtain rfl : k = G.length := by omega
      exact ⟨rfl, (), [.id 0, .id 1, .id 2, .id 3, .id 4, .id 5, .id 6], by (exact ⟨by kernel_rfl, by ((repeat refine okTms_cons (by (first | exact lw_any | exact lw_int | exact lw_bool | exact lw_ptr rfl | exact lw_slo rfl | exact lw_nilp | exact lw_nils | exact lw_str | exact lw_slo_nils | exact lw_slo_sle | exact lw_sl rfl | exact lw_unb | exact lw_gptr | exact lw_noid rfl | exact lw_cap rfl (Nat.le_refl _) | exact lw_cap rfl (by omega) | assumption)) ?_); exact okTms_nil), by ((repeat refine okBlks_cons (by (first | exact lb_dead | exact lb_same (by (first | assumption | exact noIds_tab (fun _ => rfl) _ _ | exact noIds_encL (fun _ => rfl) _ | rfl)) | exact lb_ro (by (first | assumption | exact noIds_tab (fun _ => rfl) _ _ | exact noIds_encL (fun _ => rfl) _ | rfl)) | exact lb_none | exact lb_cells (by ((repeat refine lws_cons (by (first | exact lw_any | exact lw_int | exact lw_bool | exact lw_ptr rfl | exact lw_slo rfl | exact lw_nilp | exact lw_nils | exact lw_str | exact lw_slo_nils | exact lw_slo_sle | exact lw_sl rfl | exact lw_unb | exact lw_gptr | exact lw_noid rfl | exact lw_cap rfl (Nat.le_refl _) | exact lw_cap rfl (by omega) | assumption)) ?_); exact lws_nil)) (by simp) | exact lb_iter | exact lb_cap (Nat.le_refl _) (Nat.le_refl _) rfl rfl | assumption)) ?_); exact okBlks_nil)⟩)⟩
  refine SSp.last cxw_ok (n := 40) (mkS_le (by simp)) ?_
  rw [lw_z]
  have e20 : xar .add .u64 20 (xwr .u64 mo) = 20 + mo := by
    rw [wr_u64 hm0 (by omega), xar_add, wrap_u64 (by omega) (by omega)]
  have el : ([.int .u64 0, .int .u64 (20 + mo)] : List LV) = encL (cI .u64) [0, 20 + mo] := rfl
  have k2 : ∀ x ∈ G, psd [0, 20 + mo] x.2 = true := fun x hx => by
    obtain ⟨_, j, hj, e⟩ := hG x hx
    have h16 := Int.emod_lt_of_pos (A j) (show (0 : Int) < 16 by omega)
    subst e
    refine psd_iff.2 fun i hi => ?_
    rcases i with _ | _ | i
    · exact .inl rfl
    · refine .inr ?_
      show A j % 16 < 20 + mo
      omega
    · simp at hi; omega
  have g3 : G.filter (fun x => psd [0, 20 + mo] x.2) = G := List.filter_eq_self.2 k2
  have g4 : G.filter (fun x => !psd [0, 20 + mo] x.2) = [] := List.filter_eq_nil_iff.2 fun x hx => by rw [k2 x hx]; exact Bool.false_ne_true
  have ok2 := okIu64_enc (xs := [0, 20 + mo]) (by simp)
  have okn := okC_enc (xs := ([] : List (Int × Int))) (by simp)
  have ea : xar .add .i64 (F.length : Int) (G.length : Int) = (na : Int) := by rw [add_i64 (by omega) (by omega)]; omega
  rw [ea]
  (with_reducible refine way_f (by (first | with_reducible rfl | exact f_le (by omega) | exact f_eq (by omega) | exact f_nn (by omega) | exact f_lss (by omega) | exact f_leq (by omega) | exact f_gtr (by omega) | exact f_geq (by omega) | exact f_eql (by omega) | exact f_neq (by omega) | exact f_z (by omega) | exact wd_not_t | assumption)) ?_)
  have ok3 : okIu64 (encL (cI .u64) [0, 20 + mo]) 2 = true := ok2
  simp only [wd_nat, wd_ix, wd_add, wd_mul, wd_ln, Nat.zero_add, Nat.mul_one, wd_isI, wd_asI, wd_isB, wd_asB, wd_nn, cI_tlen, cB_tlen, cII_tlen, decide_true, cond_true, wd_not_t, wd_not_f, wd_and_t, wd_and_f, e20, el, ripC_e, ripN_e, rstC_e, rstN_e, g1, g2, g3, g4, okG, okZ, sameCRest_self, List.length_nil, ok3]
  (repeat (with_reducible refine must (by (first | with_reducible rfl | exact t_le (by omega) | exact t_eq (by omega) | exact t_nn (by omega) | exact t_lss (by omega) | exact t_leq (by omega) | exact t_gtr (by omega) | exact t_geq (by omega) | exact t_eql (by omega) | exact t_neq (by omega) | exact t_z (by omega) | exact wd_not_f | assumption)) ?_))
  (with_reducible refine way_f (by (first | with_reducible rfl | exact f_le (by omega) | exact f_eq (by omega) | exact f_nn (by omega) | exact f_lss (by omega) | exact f_leq (by omega) | exact f_gtr (by omega) | exact f_geq (by omega) | exact f_eql (by omega) | exact f_neq (by omega) | exact f_z (by omega) | exact wd_not_t | assumption)) ?_)
  (repeat (with_reducible refine must (by (first | with_reducible rfl | exact t_le (by omega) | exact t_eq (by omega) | exact t_nn (by omega) | exact t_lss (by omega) | exact t_leq (by omega) | exact t_gtr (by omega) | exact t_geq (by omega) | exact t_eql (by omega) | exact t_neq (by omega) | exact t_z (by omega) | exact wd_not_f | assumption)) ?_))
  rw [show xcm .eql ((0 : Nat) : Int) 0 = true from t_eql rfl]
  exact ⟨trivial, rfl, .bool true, [.ro _, .ro _], [.id 0, .id 1], rfl, by (exact ⟨by kernel_rfl, by ((repeat refine okTms_cons (by (first | exact lw_any | exact lw_int | exact lw_bool | exact lw_ptr rfl | exact lw_slo rfl | exact lw_nilp | exact lw_nils | exact lw_str | exact lw_slo_nils | exact lw_slo_sle | exact lw_sl rfl | exact lw_unb | exact lw_gptr | exact lw_noid rfl | exact lw_cap rfl (Nat.le_refl _) | exact lw_cap rfl (by omega) | assumption)) ?_); exact okTms_nil), by ((repeat refine okBlks_cons (by (first | exact lb_dead | exact lb_same (by (first | assumption | exact noIds_tab (fun _ => rfl) _ _ | exact noIds_encL (fun _ => rfl) _ | rfl)) | exact lb_ro (by (first | assumption | exact noIds_tab (fun _ => rfl) _ _ | exact noIds_encL (fun _ => rfl) _ | rfl)) | exact lb_none | exact lb_cells (by ((repeat refine lws_cons (by (first | exact lw_any | exact lw_int | exact lw_bool | exact lw_ptr rfl | exact lw_slo rfl | exact lw_nilp | exact lw_nils | exact lw_str | exact lw_slo_nils | exact lw_slo_sle | exact lw_sl rfl | exact lw_unb | exact lw_gptr | exact lw_noid rfl | exact lw_cap rfl (Nat.le_refl _) | exact lw_cap rfl (by omega) | assumption)) ?_); exact lws_nil)) (by simp) | exact lb_iter | exact lb_cap (Nat.le_refl _) (Nat.le_refl _) rfl rfl | assumption)) ?_); exact okBlks_nil)⟩)⟩
end
theorem waits_any {H : Type} {enc : TypeId × Value → H} {W : World} {a1 a2 : Option Addr} {len1 cap1 len2 cap2 : Nat} {d1 d2 : DataW H} {p1 p2 : List MemPlace} {mo : Int} (hm : 0 ≤ mo ∧ mo ≤ 255)
    (h1 : DataW.Trod enc Go.Proofs.Try.prog W 0 (fun _ => true) true 42 (.slice a1 len1 cap1) d1 p1) (h2 : DataW.Trod enc Go.Proofs.Try.prog W 0 (fun _ => true) true 42 (.slice a2 len2 cap2) d2 p2) :
    Calls Go.Proofs.Try.prog 5 #[.slice a1 len1 cap1, .slice a2 len2 cap2, .int .u8 mo] W fun e W' => e = .returned (.bool true) ∧ Below W.heap.size W W' := by
  obtain ⟨A, n1, b1, r1⟩ := ints_row Go.Proofs.Try.underlying42 Go.Proofs.Try.underlying5 (by kernel_rfl) h1
  obtain ⟨B, n2, b2, r2⟩ := ints_row Go.Proofs.Try.underlying42 Go.Proofs.Try.underlying5 (by kernel_rfl) h2
  refine SFun.top (rows := [(.slice a1 len1 cap1, len1, tab (cI .u8) len1 A), (.slice a2 len2 cap2, len2, tab (cI .u8) len2 B)]) (g := []) (us := [.slice a1 len1 cap1, .slice a2 len2 cap2, .int .u8 mo]) ⟨r1, r2, trivial⟩ (fun x hx => by cases hx) (fun r h => ?_) (lw_fun hm.1 hm.2 A B (fun i hi => b1 i hi) (fun i hi => b2 i hi))
  simp only [VRs, VR]
  exact ⟨_, _, rfl, h 0 _ _ _ rfl, _, _, rfl, h 1 _ _ _ rfl, _, _, rfl, rfl, rfl⟩
end Go.Lev
