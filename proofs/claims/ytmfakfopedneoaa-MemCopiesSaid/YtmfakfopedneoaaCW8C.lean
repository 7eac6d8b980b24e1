/- the laws of chapter 6: trees -/
import Derived.Test.YtmfakfopedneoaaCW8
import Derived.Test.YtmfakfopedneoaaLc
import Derived.Test.YtmfakfopedneoaaChecked
import Derived.KernelRfl

namespace Go.Lev
open Go.RowKit
set_option linter.unusedVariables false
set_option linter.unusedSimpArgs false
set_option maxRecDepth 100000
noncomputable section
theorem mc_c (na nb nc : Nat) (sa sb sc sd se N C : Int) (nw nl ns : Nat) (ws ls ss : List LV) (ax bx cx : List LV) (K : Pk) : (xsp Go.Proofs.Try.prog cxp 40 51 (seg (sp Go.Proofs.Try.prog 7) 6 1) (mkTm 51 (mcT na nb nc)) (mkS (mcH sa sb sc sd se N C nw nl ns ws ls ss ax bx cx)) (vK mcL K)) = (
  bif xle nw 1000000 then
  bif xeq (xln ws) (xmul nw 1) then
  bif xnoid ws then
  bif xle nl 1000000 then
  bif xeq (xln ls) (xmul nl 3) then
  bif xnoid ls then
  bif xcm .eql sc sc then
  bif xcm .eql sc sc then
  bif xle ns 1000000 then
  bif xeq (xln ss) (xmul ns 1) then
  bif xnoid ss then
  bif xcm .eql sa sa then
  bif xcm .eql sb sb then
  bif xcm .eql sc sc then
  bif xcm .eql sd sd then
  bif xcm .eql se se then
  bif xcm .eql sa sa then
  bif xcm .eql sb sb then
  bif xcm .eql sc sc then
  bif xcm .eql sd sd then
  bif xcm .eql se se then
  bif xcm .eql sa sa then
  bif xcm .eql sb sb then
  bif xcm .eql sc sc then
  bif xcm .eql sd sd then
  bif xcm .eql se se then
  bif xcm .eql sa sa then
  bif xcm .eql sb sb then
  bif xcm .eql sc sc then
  bif xcm .eql sd sd then
  bif xcm .eql se se then
  bif xcm .eql sa sa then
  bif xcm .eql sb sb then
  bif xcm .eql sc sc then
  bif xcm .eql sd sd then
  bif xcm .eql se se then
  bif xcm .eql sa sa then
  bif xcm .eql sb sb then
  bif xcm .eql sc sc then
  bif xcm .eql sd sd then
  bif xcm .eql se se then
  bif xcm .eql sa sa then
  bif xcm .eql sb sb then
  bif xcm .eql sc sc then
  bif xcm .eql sd sd then
  bif xcm .eql se se then
  bif xcm .eql sa sa then
  bif xcm .eql sb sb then
  bif xcm .eql sc sc then
  bif xcm .eql sd sd then
  bif xcm .eql se se then
  bif xcm .eql C C then
  bif xcm .eql C C then
  bif xcm .eql C C then
  bif xcm .eql C C then
  bif xcm .eql C C then
  bif xcm .eql C C then
  bif xcm .eql C C then
  bif xcm .eql C C then
  bif xle (xadd 0 (xmul nw 1)) (xln ws) then
  bif xz nw then (
   bif xle (xadd 0 (xmul nl 3)) (xln ls) then
   bif xz nl then (
    bif xle (xadd 0 (xmul ns 1)) (xln ss) then
    bif xz ns then (
     bif xcm .eql sa sa then
     bif xcm .eql sb sb then
     bif xcm .eql sc sc then
     bif xcm .eql sd sd then
     bif xcm .eql se se then
     bif xcm .eql sa sa then
     bif xcm .eql sb sb then
     bif xcm .eql sc sc then
     bif xcm .eql sd sd then
     bif xcm .eql se se then
     bif xcm .eql sa sa then
     bif xcm .eql sb sb then
     bif xcm .eql sc sc then
     bif xcm .eql sd sd then
     bif xcm .eql se se then
     bif xcm .eql sa sa then
     bif xcm .eql sb sb then
     bif xcm .eql sc sc then
     bif xcm .eql sd sd then
     bif xcm .eql se se then
     bif xcm .eql sa sa then
     bif xcm .eql sb sb then
     bif xcm .eql sc sc then
     bif xcm .eql sd sd then
     bif xcm .eql se se then
     bif xcm .eql sa sa then
     bif xcm .eql sb sb then
     bif xcm .eql sc sc then
     bif xcm .eql sd sd then
     bif xcm .eql se se then
     bif xeq nl nl then
     bif xeq nl nl then
     bif xcm .eql N N then
     bif xcm .eql N N then
     bif xcm .eql N N then
     bif xcm .eql N N then
     bif xcm .eql N N then
     bif xcm .eql N N then
     bif xeq ns ns then
     bif xeq ns ns then
     bif xeq ns ns then
     bif xeq ns ns then
     bif xcm .eql C C then
     bif xcm .eql C C then
     bif xcm .eql C C then
     bif xcm .eql C C then
     bif xcm .eql C C then
     bif xcm .eql C C then
     K .normal [.slo 0 0 na 0, .slo 1 0 nb 0, .slo 2 0 nc 0, .any, .ptr 3 0, .ptr 11 0, .ptr 22 0, .ptr 23 0] [some (.ro ax), some (.ro bx), some (.ro cx), some (.cells [.int .i64 sa, .int .i64 sb, .int .i64 sc, .int .i64 sd, .int .u64 se, .ptr 4 0, .ptr 6 0, .ptr 8 0, .ptr 9 0, .int .i64 C] none), some (.cells [.slo 5 0 nw 0] none), some (.cells ws (some 1)), some (.cells [.int .i64 sc, .slo 7 0 nl 0] none), some (.cells ls (some 3)), some (.cells [.int .u64 N] none), some (.cells [.slo 10 0 ns 0] none), some (.cells ss (some 1)), some (.cells [.int .i64 sa, .int .i64 sb, .int .i64 sc, .int .i64 sd, .int .u64 se, .slo 12 0 nw 0, .slo 13 0 nl 0, .int .u64 N, .slo 14 0 ns 0, .int .i64 C] none), some (.cells ws (some 1)), some (.cells ls (some 3)), some (.cells ss (some 1)), some (.cells ws (some 1)), some (.cells [.slo 15 0 nw 0] none), some (.cells ls (some 3)), some (.cells [.int .i64 sc, .slo 17 0 nl 0] none), some (.cells [.int .u64 N] none), some (.cells ss (some 1)), some (.cells [.slo 20 0 ns 0] none), some (.cells [.int .i64 sa, .int .i64 sb, .int .i64 sc, .int .i64 sd, .int .u64 se, .ptr 16 0, .ptr 18 0, .ptr 19 0, .ptr 21 0, .int .i64 C] none), some (.cells [.int .i64 sa, .int .i64 sb, .int .i64 sc, .int .i64 sd, .int .u64 se, .nils, .nils, .int .u64 N, .nils, .int .i64 C] none)] []
     else False
     else False
     else False
     else False
     else False
     else False
     else False
     else False
     else False
     else False
     else False
     else False
     else False
     else False
     else False
     else False
     else False
     else False
     else False
     else False
     else False
     else False
     else False
     else False
     else False
     else False
     else False
     else False
     else False
     else False
     else False
     else False
     else False
     else False
     else False
     else False
     else False
     else False
     else False
     else False
     else False
     else False
     else False
     else False
     else False
     else False
     else False
     else False)
    else (
     bif xle ns 1000000 then
     bif xcm .eql sa sa then
     bif xcm .eql sb sb then
     bif xcm .eql sc sc then
     bif xcm .eql sd sd then
     bif xcm .eql se se then
     bif xcm .eql sa sa then
     bif xcm .eql sb sb then
     bif xcm .eql sc sc then
     bif xcm .eql sd sd then
     bif xcm .eql se se then
     bif xcm .eql sa sa then
     bif xcm .eql sb sb then
     bif xcm .eql sc sc then
     bif xcm .eql sd sd then
     bif xcm .eql se se then
     bif xcm .eql sa sa then
     bif xcm .eql sb sb then
     bif xcm .eql sc sc then
     bif xcm .eql sd sd then
     bif xcm .eql se se then
     bif xcm .eql sa sa then
     bif xcm .eql sb sb then
     bif xcm .eql sc sc then
     bif xcm .eql sd sd then
     bif xcm .eql se se then
     bif xcm .eql sa sa then
     bif xcm .eql sb sb then
     bif xcm .eql sc sc then
     bif xcm .eql sd sd then
     bif xcm .eql se se then
     bif xeq nl nl then
     bif xeq nl nl then
     bif xcm .eql N N then
     bif xcm .eql N N then
     bif xcm .eql N N then
     bif xcm .eql N N then
     bif xcm .eql N N then
     bif xcm .eql N N then
     bif xeq ns ns then
     bif xeq ns ns then
     bif xeq ns ns then
     bif xeq ns ns then
     bif xcm .eql C C then
     bif xcm .eql C C then
     bif xcm .eql C C then
     bif xcm .eql C C then
     bif xcm .eql C C then
     bif xcm .eql C C then
     K .normal [.slo 0 0 na 0, .slo 1 0 nb 0, .slo 2 0 nc 0, .any, .ptr 3 0, .ptr 11 0, .ptr 22 0, .ptr 24 0] [some (.ro ax), some (.ro bx), some (.ro cx), some (.cells [.int .i64 sa, .int .i64 sb, .int .i64 sc, .int .i64 sd, .int .u64 se, .ptr 4 0, .ptr 6 0, .ptr 8 0, .ptr 9 0, .int .i64 C] none), some (.cells [.slo 5 0 nw 0] none), some (.cells ws (some 1)), some (.cells [.int .i64 sc, .slo 7 0 nl 0] none), some (.cells ls (some 3)), some (.cells [.int .u64 N] none), some (.cells [.slo 10 0 ns 0] none), some (.cells ss (some 1)), some (.cells [.int .i64 sa, .int .i64 sb, .int .i64 sc, .int .i64 sd, .int .u64 se, .slo 12 0 nw 0, .slo 13 0 nl 0, .int .u64 N, .slo 14 0 ns 0, .int .i64 C] none), some (.cells ws (some 1)), some (.cells ls (some 3)), some (.cells ss (some 1)), some (.cells ws (some 1)), some (.cells [.slo 15 0 nw 0] none), some (.cells ls (some 3)), some (.cells [.int .i64 sc, .slo 17 0 nl 0] none), some (.cells [.int .u64 N] none), some (.cells ss (some 1)), some (.cells [.slo 20 0 ns 0] none), some (.cells [.int .i64 sa, .int .i64 sb, .int .i64 sc, .int .i64 sd, .int .u64 se, .ptr 16 0, .ptr 18 0, .ptr 19 0, .ptr 21 0, .int .i64 C] none), some (.cells (xcut ss 0 (xmul ns 1)) (some 1)), some (.cells [.int .i64 sa, .int .i64 sb, .int .i64 sc, .int .i64 sd, .int .u64 se, .nils, .nils, .int .u64 N, .slo 23 0 ns 0, .int .i64 C] none)] []
     else False
     else False
     else False
     else False
     else False
     else False
     else False
     else False
     else False
     else False
     else False
     else False
     else False
     else False
     else False
     else False
     else False
     else False
     else False
     else False
     else False
     else False
     else False
     else False
     else False
     else False
     else False
     else False
     else False
     else False
     else False
     else False
     else False
     else False
     else False
     else False
     else False
     else False
     else False
     else False
     else False
     else False
     else False
     else False
     else False
     else False
     else False
     else False
     else False)
    else False)
   else (
    bif xle nl 1000000 then
    bif xle (xadd 0 (xmul ns 1)) (xln ss) then
    bif xz ns then (
     bif xcm .eql sa sa then
     bif xcm .eql sb sb then
     bif xcm .eql sc sc then
     bif xcm .eql sd sd then
     bif xcm .eql se se then
     bif xcm .eql sa sa then
     bif xcm .eql sb sb then
     bif xcm .eql sc sc then
     bif xcm .eql sd sd then
     bif xcm .eql se se then
     bif xcm .eql sa sa then
     bif xcm .eql sb sb then
     bif xcm .eql sc sc then
     bif xcm .eql sd sd then
     bif xcm .eql se se then
     bif xcm .eql sa sa then
     bif xcm .eql sb sb then
     bif xcm .eql sc sc then
     bif xcm .eql sd sd then
     bif xcm .eql se se then
     bif xcm .eql sa sa then
     bif xcm .eql sb sb then
     bif xcm .eql sc sc then
     bif xcm .eql sd sd then
     bif xcm .eql se se then
     bif xcm .eql sa sa then
     bif xcm .eql sb sb then
     bif xcm .eql sc sc then
     bif xcm .eql sd sd then
     bif xcm .eql se se then
     bif xeq nl nl then
     bif xeq nl nl then
     bif xcm .eql N N then
     bif xcm .eql N N then
     bif xcm .eql N N then
     bif xcm .eql N N then
     bif xcm .eql N N then
     bif xcm .eql N N then
     bif xeq ns ns then
     bif xeq ns ns then
     bif xeq ns ns then
     bif xeq ns ns then
     bif xcm .eql C C then
     bif xcm .eql C C then
     bif xcm .eql C C then
     bif xcm .eql C C then
     bif xcm .eql C C then
     bif xcm .eql C C then
     K .normal [.slo 0 0 na 0, .slo 1 0 nb 0, .slo 2 0 nc 0, .any, .ptr 3 0, .ptr 11 0, .ptr 22 0, .ptr 24 0] [some (.ro ax), some (.ro bx), some (.ro cx), some (.cells [.int .i64 sa, .int .i64 sb, .int .i64 sc, .int .i64 sd, .int .u64 se, .ptr 4 0, .ptr 6 0, .ptr 8 0, .ptr 9 0, .int .i64 C] none), some (.cells [.slo 5 0 nw 0] none), some (.cells ws (some 1)), some (.cells [.int .i64 sc, .slo 7 0 nl 0] none), some (.cells ls (some 3)), some (.cells [.int .u64 N] none), some (.cells [.slo 10 0 ns 0] none), some (.cells ss (some 1)), some (.cells [.int .i64 sa, .int .i64 sb, .int .i64 sc, .int .i64 sd, .int .u64 se, .slo 12 0 nw 0, .slo 13 0 nl 0, .int .u64 N, .slo 14 0 ns 0, .int .i64 C] none), some (.cells ws (some 1)), some (.cells ls (some 3)), some (.cells ss (some 1)), some (.cells ws (some 1)), some (.cells [.slo 15 0 nw 0] none), some (.cells ls (some 3)), some (.cells [.int .i64 sc, .slo 17 0 nl 0] none), some (.cells [.int .u64 N] none), some (.cells ss (some 1)), some (.cells [.slo 20 0 ns 0] none), some (.cells [.int .i64 sa, .int .i64 sb, .int .i64 sc, .int .i64 sd, .int .u64 se, .ptr 16 0, .ptr 18 0, .ptr 19 0, .ptr 21 0, .int .i64 C] none), some (.cells (xcut ls 0 (xmul nl 3)) (some 3)), some (.cells [.int .i64 sa, .int .i64 sb, .int .i64 sc, .int .i64 sd, .int .u64 se, .nils, .slo 23 0 nl 0, .int .u64 N, .nils, .int .i64 C] none)] []
     else False
     else False
     else False
     else False
     else False
     else False
     else False
     else False
     else False
     else False
     else False
     else False
     else False
     else False
     else False
     else False
     else False
     else False
     else False
     else False
     else False
     else False
     else False
     else False
     else False
     else False
     else False
     else False
     else False
     else False
     else False
     else False
     else False
     else False
     else False
     else False
     else False
     else False
     else False
     else False
     else False
     else False
     else False
     else False
     else False
     else False
     else False
     else False)
    else (
     bif xle ns 1000000 then
     bif xcm .eql sa sa then
     bif xcm .eql sb sb then
     bif xcm .eql sc sc then
     bif xcm .eql sd sd then
     bif xcm .eql se se then
     bif xcm .eql sa sa then
     bif xcm .eql sb sb then
     bif xcm .eql sc sc then
     bif xcm .eql sd sd then
     bif xcm .eql se se then
     bif xcm .eql sa sa then
     bif xcm .eql sb sb then
     bif xcm .eql sc sc then
     bif xcm .eql sd sd then
     bif xcm .eql se se then
     bif xcm .eql sa sa then
     bif xcm .eql sb sb then
     bif xcm .eql sc sc then
     bif xcm .eql sd sd then
     bif xcm .eql se se then
     bif xcm .eql sa sa then
     bif xcm .eql sb sb then
     bif xcm .eql sc sc then
     bif xcm .eql sd sd then
     bif xcm .eql se se then
     bif xcm .eql sa sa then
     bif xcm .eql sb sb then
     bif xcm .eql sc sc then
     bif xcm .eql sd sd then
     bif xcm .eql se se then
     bif xeq nl nl then
     bif xeq nl nl then
     bif xcm .eql N N then
     bif xcm .eql N N then
     bif xcm .eql N N then
     bif xcm .eql N N then
     bif xcm .eql N N then
     bif xcm .eql N N then
     bif xeq ns ns then
     bif xeq ns ns then
     bif xeq ns ns then
     bif xeq ns ns then
     bif xcm .eql C C then
     bif xcm .eql C C then
     bif xcm .eql C C then
     bif xcm .eql C C then
     bif xcm .eql C C then
     bif xcm .eql C C then
     K .normal [.slo 0 0 na 0, .slo 1 0 nb 0, .slo 2 0 nc 0, .any, .ptr 3 0, .ptr 11 0, .ptr 22 0, .ptr 25 0] [some (.ro ax), some (.ro bx), some (.ro cx), some (.cells [.int .i64 sa, .int .i64 sb, .int .i64 sc, .int .i64 sd, .int .u64 se, .ptr 4 0, .ptr 6 0, .ptr 8 0, .ptr 9 0, .int .i64 C] none), some (.cells [.slo 5 0 nw 0] none), some (.cells ws (some 1)), some (.cells [.int .i64 sc, .slo 7 0 nl 0] none), some (.cells ls (some 3)), some (.cells [.int .u64 N] none), some (.cells [.slo 10 0 ns 0] none), some (.cells ss (some 1)), some (.cells [.int .i64 sa, .int .i64 sb, .int .i64 sc, .int .i64 sd, .int .u64 se, .slo 12 0 nw 0, .slo 13 0 nl 0, .int .u64 N, .slo 14 0 ns 0, .int .i64 C] none), some (.cells ws (some 1)), some (.cells ls (some 3)), some (.cells ss (some 1)), some (.cells ws (some 1)), some (.cells [.slo 15 0 nw 0] none), some (.cells ls (some 3)), some (.cells [.int .i64 sc, .slo 17 0 nl 0] none), some (.cells [.int .u64 N] none), some (.cells ss (some 1)), some (.cells [.slo 20 0 ns 0] none), some (.cells [.int .i64 sa, .int .i64 sb, .int .i64 sc, .int .i64 sd, .int .u64 se, .ptr 16 0, .ptr 18 0, .ptr 19 0, .ptr 21 0, .int .i64 C] none), some (.cells (xcut ls 0 (xmul nl 3)) (some 3)), some (.cells (xcut ss 0 (xmul ns 1)) (some 1)), some (.cells [.int .i64 sa, .int .i64 sb, .int .i64 sc, .int .i64 sd, .int .u64 se, .nils, .slo 23 0 nl 0, .int .u64 N, .slo 24 0 ns 0, .int .i64 C] none)] []
     else False
     else False
     else False
     else False
     else False
     else False
     else False
     else False
     else False
     else False
     else False
     else False
     else False
     else False
     else False
     else False
     else False
     else False
     else False
     else False
     else False
     else False
     else False
     else False
     else False
     else False
     else False
     else False
     else False
     else False
     else False
     else False
     else False
     else False
     else False
     else False
     else False
     else False
     else False
     else False
     else False
     else False
     else False
     else False
     else False
     else False
     else False
     else False
     else False)
    else False
    else False)
   else False)
  else (
   bif xle nw 1000000 then
   bif xle (xadd 0 (xmul nl 3)) (xln ls) then
   bif xz nl then (
    bif xle (xadd 0 (xmul ns 1)) (xln ss) then
    bif xz ns then (
     bif xcm .eql sa sa then
     bif xcm .eql sb sb then
     bif xcm .eql sc sc then
     bif xcm .eql sd sd then
     bif xcm .eql se se then
     bif xcm .eql sa sa then
     bif xcm .eql sb sb then
     bif xcm .eql sc sc then
     bif xcm .eql sd sd then
     bif xcm .eql se se then
     bif xcm .eql sa sa then
     bif xcm .eql sb sb then
     bif xcm .eql sc sc then
     bif xcm .eql sd sd then
     bif xcm .eql se se then
     bif xcm .eql sa sa then
     bif xcm .eql sb sb then
     bif xcm .eql sc sc then
     bif xcm .eql sd sd then
     bif xcm .eql se se then
     bif xcm .eql sa sa then
     bif xcm .eql sb sb then
     bif xcm .eql sc sc then
     bif xcm .eql sd sd then
     bif xcm .eql se se then
     bif xcm .eql sa sa then
     bif xcm .eql sb sb then
     bif xcm .eql sc sc then
     bif xcm .eql sd sd then
     bif xcm .eql se se then
     bif xeq nl nl then
     bif xeq nl nl then
     bif xcm .eql N N then
     bif xcm .eql N N then
     bif xcm .eql N N then
     bif xcm .eql N N then
     bif xcm .eql N N then
     bif xcm .eql N N then
     bif xeq ns ns then
     bif xeq ns ns then
     bif xeq ns ns then
     bif xeq ns ns then
     bif xcm .eql C C then
     bif xcm .eql C C then
     bif xcm .eql C C then
     bif xcm .eql C C then
     bif xcm .eql C C then
     bif xcm .eql C C then
     K .normal [.slo 0 0 na 0, .slo 1 0 nb 0, .slo 2 0 nc 0, .any, .ptr 3 0, .ptr 11 0, .ptr 22 0, .ptr 24 0] [some (.ro ax), some (.ro bx), some (.ro cx), some (.cells [.int .i64 sa, .int .i64 sb, .int .i64 sc, .int .i64 sd, .int .u64 se, .ptr 4 0, .ptr 6 0, .ptr 8 0, .ptr 9 0, .int .i64 C] none), some (.cells [.slo 5 0 nw 0] none), some (.cells ws (some 1)), some (.cells [.int .i64 sc, .slo 7 0 nl 0] none), some (.cells ls (some 3)), some (.cells [.int .u64 N] none), some (.cells [.slo 10 0 ns 0] none), some (.cells ss (some 1)), some (.cells [.int .i64 sa, .int .i64 sb, .int .i64 sc, .int .i64 sd, .int .u64 se, .slo 12 0 nw 0, .slo 13 0 nl 0, .int .u64 N, .slo 14 0 ns 0, .int .i64 C] none), some (.cells ws (some 1)), some (.cells ls (some 3)), some (.cells ss (some 1)), some (.cells ws (some 1)), some (.cells [.slo 15 0 nw 0] none), some (.cells ls (some 3)), some (.cells [.int .i64 sc, .slo 17 0 nl 0] none), some (.cells [.int .u64 N] none), some (.cells ss (some 1)), some (.cells [.slo 20 0 ns 0] none), some (.cells [.int .i64 sa, .int .i64 sb, .int .i64 sc, .int .i64 sd, .int .u64 se, .ptr 16 0, .ptr 18 0, .ptr 19 0, .ptr 21 0, .int .i64 C] none), some (.cells (xcut ws 0 (xmul nw 1)) (some 1)), some (.cells [.int .i64 sa, .int .i64 sb, .int .i64 sc, .int .i64 sd, .int .u64 se, .slo 23 0 nw 0, .nils, .int .u64 N, .nils, .int .i64 C] none)] []
     else False
     else False
     else False
     else False
     else False
     else False
     else False
     else False
     else False
     else False
     else False
     else False
     else False
     else False
     else False
     else False
     else False
     else False
     else False
     else False
     else False
     else False
     else False
     else False
     else False
     else False
     else False
     else False
     else False
     else False
     else False
     else False
     else False
     else False
     else False
     else False
     else False
     else False
     else False
     else False
     else False
     else False
     else False
     else False
     else False
     else False
     else False
     else False)
    else (
     bif xle ns 1000000 then
     bif xcm .eql sa sa then
     bif xcm .eql sb sb then
     bif xcm .eql sc sc then
     bif xcm .eql sd sd then
     bif xcm .eql se se then
     bif xcm .eql sa sa then
     bif xcm .eql sb sb then
     bif xcm .eql sc sc then
     bif xcm .eql sd sd then
     bif xcm .eql se se then
     bif xcm .eql sa sa then
     bif xcm .eql sb sb then
     bif xcm .eql sc sc then
     bif xcm .eql sd sd then
     bif xcm .eql se se then
     bif xcm .eql sa sa then
     bif xcm .eql sb sb then
     bif xcm .eql sc sc then
     bif xcm .eql sd sd then
     bif xcm .eql se se then
     bif xcm .eql sa sa then
     bif xcm .eql sb sb then
     bif xcm .eql sc sc then
     bif xcm .eql sd sd then
     bif xcm .eql se se then
     bif xcm .eql sa sa then
     bif xcm .eql sb sb then
     bif xcm .eql sc sc then
     bif xcm .eql sd sd then
     bif xcm .eql se se then
     bif xeq nl nl then
     bif xeq nl nl then
     bif xcm .eql N N then
     bif xcm .eql N N then
     bif xcm .eql N N then
     bif xcm .eql N N then
     bif xcm .eql N N then
     bif xcm .eql N N then
     bif xeq ns ns then
     bif xeq ns ns then
     bif xeq ns ns then
     bif xeq ns ns then
     bif xcm .eql C C then
     bif xcm .eql C C then
     bif xcm .eql C C then
     bif xcm .eql C C then
     bif xcm .eql C C then
     bif xcm .eql C C then
     K .normal [.slo 0 0 na 0, .slo 1 0 nb 0, .slo 2 0 nc 0, .any, .ptr 3 0, .ptr 11 0, .ptr 22 0, .ptr 25 0] [some (.ro ax), some (.ro bx), some (.ro cx), some (.cells [.int .i64 sa, .int .i64 sb, .int .i64 sc, .int .i64 sd, .int .u64 se, .ptr 4 0, .ptr 6 0, .ptr 8 0, .ptr 9 0, .int .i64 C] none), some (.cells [.slo 5 0 nw 0] none), some (.cells ws (some 1)), some (.cells [.int .i64 sc, .slo 7 0 nl 0] none), some (.cells ls (some 3)), some (.cells [.int .u64 N] none), some (.cells [.slo 10 0 ns 0] none), some (.cells ss (some 1)), some (.cells [.int .i64 sa, .int .i64 sb, .int .i64 sc, .int .i64 sd, .int .u64 se, .slo 12 0 nw 0, .slo 13 0 nl 0, .int .u64 N, .slo 14 0 ns 0, .int .i64 C] none), some (.cells ws (some 1)), some (.cells ls (some 3)), some (.cells ss (some 1)), some (.cells ws (some 1)), some (.cells [.slo 15 0 nw 0] none), some (.cells ls (some 3)), some (.cells [.int .i64 sc, .slo 17 0 nl 0] none), some (.cells [.int .u64 N] none), some (.cells ss (some 1)), some (.cells [.slo 20 0 ns 0] none), some (.cells [.int .i64 sa, .int .i64 sb, .int .i64 sc, .int .i64 sd, .int .u64 se, .ptr 16 0, .ptr 18 0, .ptr 19 0, .ptr 21 0, .int .i64 C] none), some (.cells (xcut ws 0 (xmul nw 1)) (some 1)), some (.cells (xcut ss 0 (xmul ns 1)) (some 1)), some (.cells [.int .i64 sa, .int .i64 sb, .int .i64 sc, .int .i64 sd, .int .u64 se, .slo 23 0 nw 0, .nils, .int .u64 N, .slo 24 0 ns 0, .int .i64 C] none)] []
     else False
     else False
     else False
     else False
     else False
     else False
     else False
     else False
     else False
     else False
     else False
     else False
     else False
     else False
     else False
     else False
     else False
     else False
     else False
     else False
     else False
     else False
     else False
     else False
     else False
     else False
     else False
     else False
     else False
     else False
     else False
     else False
     else False
     else False
     else False
     else False
     else False
     else False
     else False
     else False
     else False
     else False
     else False
     else False
     else False
     else False
     else False
     else False
     else False)
    else False)
   else (
    bif xle nl 1000000 then
    bif xle (xadd 0 (xmul ns 1)) (xln ss) then
    bif xz ns then (
     bif xcm .eql sa sa then
     bif xcm .eql sb sb then
     bif xcm .eql sc sc then
     bif xcm .eql sd sd then
     bif xcm .eql se se then
     bif xcm .eql sa sa then
     bif xcm .eql sb sb then
     bif xcm .eql sc sc then
     bif xcm .eql sd sd then
     bif xcm .eql se se then
     bif xcm .eql sa sa then
     bif xcm .eql sb sb then
     bif xcm .eql sc sc then
     bif xcm .eql sd sd then
     bif xcm .eql se se then
     bif xcm .eql sa sa then
     bif xcm .eql sb sb then
     bif xcm .eql sc sc then
     bif xcm .eql sd sd then
     bif xcm .eql se se then
     bif xcm .eql sa sa then
     bif xcm .eql sb sb then
     bif xcm .eql sc sc then
     bif xcm .eql sd sd then
     bif xcm .eql se se then
     bif xcm .eql sa sa then
     bif xcm .eql sb sb then
     bif xcm .eql sc sc then
     bif xcm .eql sd sd then
     bif xcm .eql se se then
     bif xeq nl nl then
     bif xeq nl nl then
     bif xcm .eql N N then
     bif xcm .eql N N then
     bif xcm .eql N N then
     bif xcm .eql N N then
     bif xcm .eql N N then
     bif xcm .eql N N then
     bif xeq ns ns then
     bif xeq ns ns then
     bif xeq ns ns then
     bif xeq ns ns then
     bif xcm .eql C C then
     bif xcm .eql C C then
     bif xcm .eql C C then
     bif xcm .eql C C then
     bif xcm .eql C C then
     bif xcm .eql C C then
     K .normal [.slo 0 0 na 0, .slo 1 0 nb 0, .slo 2 0 nc 0, .any, .ptr 3 0, .ptr 11 0, .ptr 22 0, .ptr 25 0] [some (.ro ax), some (.ro bx), some (.ro cx), some (.cells [.int .i64 sa, .int .i64 sb, .int .i64 sc, .int .i64 sd, .int .u64 se, .ptr 4 0, .ptr 6 0, .ptr 8 0, .ptr 9 0, .int .i64 C] none), some (.cells [.slo 5 0 nw 0] none), some (.cells ws (some 1)), some (.cells [.int .i64 sc, .slo 7 0 nl 0] none), some (.cells ls (some 3)), some (.cells [.int .u64 N] none), some (.cells [.slo 10 0 ns 0] none), some (.cells ss (some 1)), some (.cells [.int .i64 sa, .int .i64 sb, .int .i64 sc, .int .i64 sd, .int .u64 se, .slo 12 0 nw 0, .slo 13 0 nl 0, .int .u64 N, .slo 14 0 ns 0, .int .i64 C] none), some (.cells ws (some 1)), some (.cells ls (some 3)), some (.cells ss (some 1)), some (.cells ws (some 1)), some (.cells [.slo 15 0 nw 0] none), some (.cells ls (some 3)), some (.cells [.int .i64 sc, .slo 17 0 nl 0] none), some (.cells [.int .u64 N] none), some (.cells ss (some 1)), some (.cells [.slo 20 0 ns 0] none), some (.cells [.int .i64 sa, .int .i64 sb, .int .i64 sc, .int .i64 sd, .int .u64 se, .ptr 16 0, .ptr 18 0, .ptr 19 0, .ptr 21 0, .int .i64 C] none), some (.cells (xcut ws 0 (xmul nw 1)) (some 1)), some (.cells (xcut ls 0 (xmul nl 3)) (some 3)), some (.cells [.int .i64 sa, .int .i64 sb, .int .i64 sc, .int .i64 sd, .int .u64 se, .slo 23 0 nw 0, .slo 24 0 nl 0, .int .u64 N, .nils, .int .i64 C] none)] []
     else False
     else False
     else False
     else False
     else False
     else False
     else False
     else False
     else False
     else False
     else False
     else False
     else False
     else False
     else False
     else False
     else False
     else False
     else False
     else False
     else False
     else False
     else False
     else False
     else False
     else False
     else False
     else False
     else False
     else False
     else False
     else False
     else False
     else False
     else False
     else False
     else False
     else False
     else False
     else False
     else False
     else False
     else False
     else False
     else False
     else False
     else False
     else False)
    else (
     bif xle ns 1000000 then
     bif xcm .eql sa sa then
     bif xcm .eql sb sb then
     bif xcm .eql sc sc then
     bif xcm .eql sd sd then
     bif xcm .eql se se then
     bif xcm .eql sa sa then
     bif xcm .eql sb sb then
     bif xcm .eql sc sc then
     bif xcm .eql sd sd then
     bif xcm .eql se se then
     bif xcm .eql sa sa then
     bif xcm .eql sb sb then
     bif xcm .eql sc sc then
     bif xcm .eql sd sd then
     bif xcm .eql se se then
     bif xcm .eql sa sa then
     bif xcm .eql sb sb then
     bif xcm .eql sc sc then
     bif xcm .eql sd sd then
     bif xcm .eql se se then
     bif xcm .eql sa sa then
     bif xcm .eql sb sb then
     bif xcm .eql sc sc then
     bif xcm .eql sd sd then
     bif xcm .eql se se then
     bif xcm .eql sa sa then
     bif xcm .eql sb sb then
     bif xcm .eql sc sc then
     bif xcm .eql sd sd then
     bif xcm .eql se se then
     bif xeq nl nl then
     bif xeq nl nl then
     bif xcm .eql N N then
     bif xcm .eql N N then
     bif xcm .eql N N then
     bif xcm .eql N N then
     bif xcm .eql N N then
     bif xcm .eql N N then
     bif xeq ns ns then
     bif xeq ns ns then
     bif xeq ns ns then
     bif xeq ns ns then
     bif xcm .eql C C then
     bif xcm .eql C C then
     bif xcm .eql C C then
     bif xcm .eql C C then
     bif xcm .eql C C then
     bif xcm .eql C C then
     K .normal [.slo 0 0 na 0, .slo 1 0 nb 0, .slo 2 0 nc 0, .any, .ptr 3 0, .ptr 11 0, .ptr 22 0, .ptr 26 0] [some (.ro ax), some (.ro bx), some (.ro cx), some (.cells [.int .i64 sa, .int .i64 sb, .int .i64 sc, .int .i64 sd, .int .u64 se, .ptr 4 0, .ptr 6 0, .ptr 8 0, .ptr 9 0, .int .i64 C] none), some (.cells [.slo 5 0 nw 0] none), some (.cells ws (some 1)), some (.cells [.int .i64 sc, .slo 7 0 nl 0] none), some (.cells ls (some 3)), some (.cells [.int .u64 N] none), some (.cells [.slo 10 0 ns 0] none), some (.cells ss (some 1)), some (.cells [.int .i64 sa, .int .i64 sb, .int .i64 sc, .int .i64 sd, .int .u64 se, .slo 12 0 nw 0, .slo 13 0 nl 0, .int .u64 N, .slo 14 0 ns 0, .int .i64 C] none), some (.cells ws (some 1)), some (.cells ls (some 3)), some (.cells ss (some 1)), some (.cells ws (some 1)), some (.cells [.slo 15 0 nw 0] none), some (.cells ls (some 3)), some (.cells [.int .i64 sc, .slo 17 0 nl 0] none), some (.cells [.int .u64 N] none), some (.cells ss (some 1)), some (.cells [.slo 20 0 ns 0] none), some (.cells [.int .i64 sa, .int .i64 sb, .int .i64 sc, .int .i64 sd, .int .u64 se, .ptr 16 0, .ptr 18 0, .ptr 19 0, .ptr 21 0, .int .i64 C] none), some (.cells (xcut ws 0 (xmul nw 1)) (some 1)), some (.cells (xcut ls 0 (xmul nl 3)) (some 3)), some (.cells (xcut ss 0 (xmul ns 1)) (some 1)), some (.cells [.int .i64 sa, .int .i64 sb, .int .i64 sc, .int .i64 sd, .int .u64 se, .slo 23 0 nw 0, .slo 24 0 nl 0, .int .u64 N, .slo 25 0 ns 0, .int .i64 C] none)] []
     else False
     else False
     else False
     else False
     else False
     else False
     else False
     else False
     else False
     else False
     else False
     else False
     else False
     else False
     else False
     else False
     else False
     else False
     else False
     else False
     else False
     else False
     else False
     else False
     else False
     else False
     else False
     else False
     else False
     else False
     else False
     else False
     else False
     else False
     else False
     else False
     else False
     else False
     else False
     else False
     else False
     else False
     else False
     else False
     else False
     else False
     else False
     else False
     else False)
    else False
    else False)
   else False
   else False)
  else False
  else False
  else False
  else False
  else False
  else False
  else False
  else False
  else False
  else False
  else False
  else False
  else False
  else False
  else False
  else False
  else False
  else False
  else False
  else False
  else False
  else False
  else False
  else False
  else False
  else False
  else False
  else False
  else False
  else False
  else False
  else False
  else False
  else False
  else False
  else False
  else False
  else False
  else False
  else False
  else False
  else False
  else False
  else False
  else False
  else False
  else False
  else False
  else False
  else False
  else False
  else False
  else False
  else False
  else False
  else False
  else False
  else False
  else False
  else False) := by kernel_rfl
end
end Go.Lev
