/- the laws of chapter 6: trees -/
import Derived.Test.YtmfakfopedneoaaCW9
import Derived.Test.YtmfakfopedneoaaLc
import Derived.Test.YtmfakfopedneoaaChecked
import Derived.KernelRfl

namespace Go.Lev
open Go.RowKit
set_option linter.unusedVariables false
set_option linter.unusedSimpArgs false
set_option maxRecDepth 100000
noncomputable section
def cxp : Cx := cxl [(3, runG), (17, newmemG), (20, doG), (19, sameMG), (56, cloneG 1), (57, cloneG 3)]
abbrev mpL : List Nat := [1, 2, 3, 6, 7, 8]
abbrev mpT (n : Nat) (raw : Bool) : List (Nat × LV) := [(1, .slo 0 0 n 0), (2, .bool raw), (3, .ptr 13 0), (7, .ptr 1 0), (8, .ptr 9 0)]
abbrev mpH (sa sb sc sd se N C : Int) (nw nl ns : Nat) (ws ls ss : List LV) (ax : List LV) (ta tb tc td te : Int) : List LB := [.ro ax, .cells [.int .i64 sa, .int .i64 sb, .int .i64 sc, .int .i64 sd, .int .u64 se, .ptr 2 0, .ptr 4 0, .ptr 6 0, .ptr 7 0, .int .i64 C] none, .cells [.slo 3 0 nw 0] none, .cells ws (some 1), .cells [.int .i64 sc, .slo 5 0 nl 0] none, .cells ls (some 3), .cells [.int .u64 N] none, .cells [.slo 8 0 ns 0] none, .cells ss (some 1), .cells [.int .i64 sa, .int .i64 sb, .int .i64 sc, .int .i64 sd, .int .u64 se, .slo 10 0 nw 0, .slo 11 0 nl 0, .int .u64 N, .slo 12 0 ns 0, .int .i64 C] none, .cells ws (some 1), .cells ls (some 3), .cells ss (some 1), .cells (shC ta tb tc td te) none]
abbrev mcL : List Nat := [1, 2, 3, 8, 9, 10, 11, 12]
abbrev mcT (na nb nc : Nat) : List (Nat × LV) := [(1, .slo 0 0 na 0), (2, .slo 1 0 nb 0), (3, .slo 2 0 nc 0), (9, .ptr 3 0), (10, .ptr 11 0)]
abbrev mcU (na nb nc : Nat) : List (Nat × LV) := [(1, .slo 0 0 na 0), (2, .slo 1 0 nb 0), (3, .slo 2 0 nc 0), (9, .ptr 3 0), (10, .ptr 11 0), (11, .ptr 15 0), (12, .ptr 23 0)]
abbrev mcH (sa sb sc sd se N C : Int) (nw nl ns : Nat) (ws ls ss : List LV) (ax bx cx : List LV) : List LB := [.ro ax, .ro bx, .ro cx, .cells [.int .i64 sa, .int .i64 sb, .int .i64 sc, .int .i64 sd, .int .u64 se, .ptr 4 0, .ptr 6 0, .ptr 8 0, .ptr 9 0, .int .i64 C] none, .cells [.slo 5 0 nw 0] none, .cells ws (some 1), .cells [.int .i64 sc, .slo 7 0 nl 0] none, .cells ls (some 3), .cells [.int .u64 N] none, .cells [.slo 10 0 ns 0] none, .cells ss (some 1), .cells [.int .i64 sa, .int .i64 sb, .int .i64 sc, .int .i64 sd, .int .u64 se, .slo 12 0 nw 0, .slo 13 0 nl 0, .int .u64 N, .slo 14 0 ns 0, .int .i64 C] none, .cells ws (some 1), .cells ls (some 3), .cells ss (some 1)]
abbrev mcI (sa sb sc sd se N C : Int) (nw nl ns : Nat) (ws ls ss : List LV) (ax bx cx : List LV) : List LB := [.ro ax, .ro bx, .ro cx, .cells [.int .i64 sa, .int .i64 sb, .int .i64 sc, .int .i64 sd, .int .u64 se, .ptr 4 0, .ptr 6 0, .ptr 8 0, .ptr 9 0, .int .i64 C] none, .cells [.slo 5 0 nw 0] none, .cells ws (some 1), .cells [.int .i64 sc, .slo 7 0 nl 0] none, .cells ls (some 3), .cells [.int .u64 N] none, .cells [.slo 10 0 ns 0] none, .cells ss (some 1), .cells [.int .i64 sa, .int .i64 sb, .int .i64 sc, .int .i64 sd, .int .u64 se, .slo 12 0 nw 0, .slo 13 0 nl 0, .int .u64 N, .slo 14 0 ns 0, .int .i64 C] none, .cells ws (some 1), .cells ls (some 3), .cells ss (some 1), .cells [.int .i64 sa, .int .i64 sb, .int .i64 sc, .int .i64 sd, .int .u64 se, .ptr 16 0, .ptr 18 0, .ptr 20 0, .ptr 21 0, .int .i64 C] none, .cells [.slo 17 0 nw 0] none, .cells ws (some 1), .cells [.int .i64 sc, .slo 19 0 nl 0] none, .cells ls (some 3), .cells [.int .u64 N] none, .cells [.slo 22 0 ns 0] none, .cells ss (some 1), .cells [.int .i64 sa, .int .i64 sb, .int .i64 sc, .int .i64 sd, .int .u64 se, .slo 24 0 nw 0, .slo 25 0 nl 0, .int .u64 N, .slo 26 0 ns 0, .int .i64 C] none, .cells ws (some 1), .cells ls (some 3), .cells ss (some 1)]
theorem mp_a (sa sb sc sd se : Int) (n : Nat) (raw : Bool) (ax : List LV) (K : Pk) : (xsp Go.Proofs.Try.prog cxp 40 38 (seg (sp Go.Proofs.Try.prog 4) 0 4) (tm0 [.agg (shC sa sb sc sd se), .slo 0 0 n 0, .bool raw]) (mkS [.ro ax]) (vK mpL K)) = (
  bif xnn (xmn (xmx (xmn (xmx sa 32) 256) 32) 256) then
  bif xnn (xmn (xmx (xmn (xmx sa 32) 256) 32) 256) then
  bif xle (xnat (xmn (xmx (xmn (xmx sa 32) 256) 32) 256)) (xnat (xmn (xmx (xmn (xmx sa 32) 256) 32) 256)) then
  bif xle (xnat (xmn (xmx (xmn (xmx sa 32) 256) 32) 256)) 100000 then
  bif xnn (xmn (xmx (xmn (xmx sb 1) 16) 1) 16) then
  bif xnn (xmn (xmx (xmn (xmx sb 1) 16) 1) 16) then
  bif xle (xnat (xmn (xmx (xmn (xmx sb 1) 16) 1) 16)) (xnat (xmn (xmx (xmn (xmx sb 1) 16) 1) 16)) then
  bif xle (xnat (xmn (xmx (xmn (xmx sb 1) 16) 1) 16)) 100000 then
  bif xnn (xmn (xmx (xmn (xmx sd 1) 4) 1) 4) then
  bif xnn (xmn (xmx (xmn (xmx sd 1) 4) 1) 4) then
  bif xle (xnat (xmn (xmx (xmn (xmx sd 1) 4) 1) 4)) (xnat (xmn (xmx (xmn (xmx sd 1) 4) 1) 4)) then
  bif xle (xnat (xmn (xmx (xmn (xmx sd 1) 4) 1) 4)) 100000 then
  bif xcm .eql (xmn (xmx sa 32) 256) (xmn (xmx sa 32) 256) then
  bif xcm .eql (xmn (xmx sb 1) 16) (xmn (xmx sb 1) 16) then
  bif xcm .eql (xmn (xmx sc 1) 16) (xmn (xmx sc 1) 16) then
  bif xcm .eql (xmn (xmx sd 1) 4) (xmn (xmx sd 1) 4) then
  bif xcm .eql (xmn se 4611686018427387903) (xmn se 4611686018427387903) then
  bif xcm .eql (xmn (xmx sa 32) 256) (xmn (xmx sa 32) 256) then
  bif xcm .eql (xmn (xmx sb 1) 16) (xmn (xmx sb 1) 16) then
  bif xcm .eql (xmn (xmx sc 1) 16) (xmn (xmx sc 1) 16) then
  bif xcm .eql (xmn (xmx sd 1) 4) (xmn (xmx sd 1) 4) then
  bif xcm .eql (xmn se 4611686018427387903) (xmn se 4611686018427387903) then
  bif xcm .eql (xmn (xmx sa 32) 256) (xmn (xmx sa 32) 256) then
  bif xcm .eql (xmn (xmx sb 1) 16) (xmn (xmx sb 1) 16) then
  bif xcm .eql (xmn (xmx sc 1) 16) (xmn (xmx sc 1) 16) then
  bif xcm .eql (xmn (xmx sd 1) 4) (xmn (xmx sd 1) 4) then
  bif xcm .eql (xmn se 4611686018427387903) (xmn se 4611686018427387903) then
  bif xcm .eql (xmn (xmx sa 32) 256) (xmn (xmx sa 32) 256) then
  bif xcm .eql (xmn (xmx sb 1) 16) (xmn (xmx sb 1) 16) then
  bif xcm .eql (xmn (xmx sc 1) 16) (xmn (xmx sc 1) 16) then
  bif xcm .eql (xmn (xmx sd 1) 4) (xmn (xmx sd 1) 4) then
  bif xcm .eql (xmn se 4611686018427387903) (xmn se 4611686018427387903) then
  bif xcm .eql (xmn (xmx sa 32) 256) (xmn (xmx sa 32) 256) then
  bif xcm .eql (xmn (xmx sb 1) 16) (xmn (xmx sb 1) 16) then
  bif xcm .eql (xmn (xmx sc 1) 16) (xmn (xmx sc 1) 16) then
  bif xcm .eql (xmn (xmx sd 1) 4) (xmn (xmx sd 1) 4) then
  bif xcm .eql (xmn se 4611686018427387903) (xmn se 4611686018427387903) then
  bif xcm .eql (xmn (xmx sa 32) 256) (xmn (xmx sa 32) 256) then
  bif xcm .eql (xmn (xmx sb 1) 16) (xmn (xmx sb 1) 16) then
  bif xcm .eql (xmn (xmx sc 1) 16) (xmn (xmx sc 1) 16) then
  bif xcm .eql (xmn (xmx sd 1) 4) (xmn (xmx sd 1) 4) then
  bif xcm .eql (xmn se 4611686018427387903) (xmn se 4611686018427387903) then
  bif xcm .eql (xmn (xmx sa 32) 256) (xmn (xmx sa 32) 256) then
  bif xcm .eql (xmn (xmx sb 1) 16) (xmn (xmx sb 1) 16) then
  bif xcm .eql (xmn (xmx sc 1) 16) (xmn (xmx sc 1) 16) then
  bif xcm .eql (xmn (xmx sd 1) 4) (xmn (xmx sd 1) 4) then
  bif xcm .eql (xmn se 4611686018427387903) (xmn se 4611686018427387903) then
  bif xcm .eql (xmn (xmx sa 32) 256) (xmn (xmx sa 32) 256) then
  bif xcm .eql (xmn (xmx sb 1) 16) (xmn (xmx sb 1) 16) then
  bif xcm .eql (xmn (xmx sc 1) 16) (xmn (xmx sc 1) 16) then
  bif xcm .eql (xmn (xmx sd 1) 4) (xmn (xmx sd 1) 4) then
  bif xcm .eql (xmn se 4611686018427387903) (xmn se 4611686018427387903) then
  bif xcm .eql (xmn (xmx sb 1) 16) (xmn (xmx sb 1) 16) then
  bif xcm .eql (xmn (xmx sb 1) 16) (xmn (xmx sb 1) 16) then
  bif xcm .eql (xmn (xmx sc 1) 16) (xmn (xmx sc 1) 16) then
  bif xcm .eql (xmn (xmx sc 1) 16) (xmn (xmx sc 1) 16) then
  bif xcm .eql (xmn se 4611686018427387903) (xmn se 4611686018427387903) then
  bif xcm .eql (xmn se 4611686018427387903) (xmn se 4611686018427387903) then
  bif xcm .eql (xmn se 4611686018427387903) (xmn se 4611686018427387903) then
  bif xcm .eql (xmn se 4611686018427387903) (xmn se 4611686018427387903) then
  bif xcm .eql (xmn (xmx sd 1) 4) (xmn (xmx sd 1) 4) then
  bif xcm .eql (xmn (xmx sd 1) 4) (xmn (xmx sd 1) 4) then
  bif xcm .eql (xmn (xmx sd 1) 4) (xmn (xmx sd 1) 4) then
  bif xcm .eql (xmn (xmx sd 1) 4) (xmn (xmx sd 1) 4) then
  bif xcm .eql (xmn (xmx sd 1) 4) (xmn (xmx sd 1) 4) then
  bif xcm .eql (xmn (xmx sd 1) 4) (xmn (xmx sd 1) 4) then
  bif xcm .eql sa sa then
  bif xcm .eql sb sb then
  bif xcm .eql sc sc then
  bif xcm .eql sd sd then
  bif xcm .eql se se then
  bif xcm .eql sa sa then
  bif xcm .eql sb sb then
  bif xcm .eql sc sc then
  bif xcm .eql sd sd then
  bif xcm .eql se se then
  K .normal [.slo 0 0 n 0, .bool raw, .ptr 1 0, .bool false, .ptr 12 0, .ptr 13 0] [some (.ro ax), some (.cells [.int .i64 sa, .int .i64 sb, .int .i64 sc, .int .i64 sd, .int .u64 se] none), some (.cells [.int .i64 (xmn (xmx sa 32) 256), .int .i64 (xmn (xmx sb 1) 16), .int .i64 (xmn (xmx sc 1) 16), .int .i64 (xmn (xmx sd 1) 4), .int .u64 (xmn se 4611686018427387903)] none), some (.cells [.int .i64 sa, .int .i64 sb, .int .i64 sc, .int .i64 sd, .int .u64 se] none), some (.cells [.int .i64 (xmn (xmx sa 32) 256), .int .i64 (xmn (xmx sb 1) 16), .int .i64 (xmn (xmx sc 1) 16), .int .i64 (xmn (xmx sd 1) 4), .int .u64 (xmn se 4611686018427387903)] none), some (.cells (xrep (xnat (xmn (xmx (xmn (xmx sa 32) 256) 32) 256)) [.int .u64 0]) none), some (.cells [.sl 5 0 (xnat (xmn (xmx (xmn (xmx sa 32) 256) 32) 256)) (xnat (xmn (xmx (xmn (xmx sa 32) 256) 32) 256))] none), some (.cells (xrep (xnat (xmn (xmx (xmn (xmx sb 1) 16) 1) 16)) [.int .u64 0, .bool false, .int .i64 0]) none), some (.cells [.int .i64 (xmn (xmx (xmn (xmx sc 1) 16) 1) 16), .sl 7 0 (xnat (xmn (xmx (xmn (xmx sb 1) 16) 1) 16)) (xnat (xmn (xmx (xmn (xmx sb 1) 16) 1) 16))] none), some (.cells [.int .u64 (xmn (xmn se 4611686018427387903) 4611686018427387903)] none), some (.cells (xrep (xnat (xmn (xmx (xmn (xmx sd 1) 4) 1) 4)) [.int .u64 0]) none), some (.cells [.sl 10 0 (xnat (xmn (xmx (xmn (xmx sd 1) 4) 1) 4)) (xnat (xmn (xmx (xmn (xmx sd 1) 4) 1) 4))] none), some (.cells [.int .i64 (xmn (xmx sa 32) 256), .int .i64 (xmn (xmx sb 1) 16), .int .i64 (xmn (xmx sc 1) 16), .int .i64 (xmn (xmx sd 1) 4), .int .u64 (xmn se 4611686018427387903), .ptr 6 0, .ptr 8 0, .ptr 9 0, .ptr 11 0, .int .i64 0] none), some (.cells [.int .i64 (xmn (xmx sa 32) 256), .int .i64 (xmn (xmx sb 1) 16), .int .i64 (xmn (xmx sc 1) 16), .int .i64 (xmn (xmx sd 1) 4), .int .u64 (xmn se 4611686018427387903), .slo 14 0 (xnat (xmn (xmx sa 32) 256)) 0, .slo 15 0 (xnat (xmn (xmx sb 1) 16)) 0, .int .u64 (xmn se 4611686018427387903), .slo 16 0 (xnat (xmn (xmx sd 1) 4)) 0, .int .i64 0] none), some (.cells (zW (xnat (xmn (xmx sa 32) 256))) (some 1)), some (.cells (zL (xnat (xmn (xmx sb 1) 16))) (some 3)), some (.cells (zW (xnat (xmn (xmx sd 1) 4))) (some 1))] []
  else False
  else False
  else False
  else False
  else False
  else False
  else False
  else False
  else False
  else False
  else False
  else False
  else False
  else False
  else False
  else False
  else False
  else False
  else False
  else False
  else False
  else False
  else False
  else False
  else False
  else False
  else False
  else False
  else False
  else False
  else False
  else False
  else False
  else False
  else False
  else False
  else False
  else False
  else False
  else False
  else False
  else False
  else False
  else False
  else False
  else False
  else False
  else False
  else False
  else False
  else False
  else False
  else False
  else False
  else False
  else False
  else False
  else False
  else False
  else False
  else False
  else False
  else False
  else False
  else False
  else False
  else False
  else False
  else False
  else False
  else False
  else False
  else False
  else False
  else False
  else False) := by kernel_rfl
theorem mp_z (n : Nat) (raw : Bool) (sa sb sc sd se N C : Int) (nw nl ns : Nat) (ws ls ss : List LV) (ax : List LV) (ta tb tc td te : Int) (K : Pk) : (xsp Go.Proofs.Try.prog cxp 40 38 ((sp Go.Proofs.Try.prog 4).drop 4) (mkTm 38 (mpT n raw)) (mkS (mpH sa sb sc sd se N C nw nl ns ws ls ss ax ta tb tc td te)) (vK mpL K)) = (
  bif xand (xcm .eql (xmn (xmx ta 32) 256) sa) (xand (xcm .eql (xmn (xmx tb 1) 16) sb) (xand (xcm .eql (xmn (xmx tc 1) 16) sc) (xand (xcm .eql (xmn (xmx td 1) 4) sd) (xand (xcm .eql (xmn te 4611686018427387903) se) true)))) then (
   bif okIu64 ws nw then
   bif okL ls nl then
   bif okIu64 ss ns then
   bif xle nw 1000000 then
   bif xle ns 1000000 then
   bif eqLs ws ws then
   bif eqLs ls ls then
   bif eqLs ss ss then
   bif xeq nw nw then
   bif xeq nl nl then
   bif xeq ns ns then
   bif xcm .eql N N then
   bif xcm .eql C C then
   bif xcm .eql sa sa then
   bif xcm .eql sb sb then
   bif xcm .eql sc sc then
   bif xcm .eql sd sd then
   bif xcm .eql se se then
   bif okIu64 ws nw then
   bif okL ls nl then
   bif okIu64 ss ns then
   bif xle nw 1000000 then
   bif xle ns 1000000 then
   bif eqLs ws ws then
   bif eqLs ls ls then
   bif eqLs ss ss then
   bif xeq nw nw then
   bif xeq nl nl then
   bif xeq ns ns then
   bif xcm .eql N N then
   bif xcm .eql C C then
   bif xcm .eql sa sa then
   bif xcm .eql sb sb then
   bif xcm .eql sc sc then
   bif xcm .eql sd sd then
   bif xcm .eql se se then
   bif okR ax n then
   bif xcm .eql sa sa then
   bif xcm .eql sb sb then
   bif xcm .eql sc sc then
   bif xcm .eql sd sd then
   bif xcm .eql se se then
   bif xcm .eql sa sa then
   bif xcm .eql sb sb then
   bif xcm .eql sc sc then
   bif xcm .eql sd sd then
   bif xcm .eql se se then
   K .ret [.slo 0 0 n 0, .bool raw, .ptr 13 0, .bool true, .ptr 1 0, .ptr 9 0] [some (.ro ax), some (.cells [.int .i64 sa, .int .i64 sb, .int .i64 sc, .int .i64 sd, .int .u64 se, .ptr 2 0, .ptr 4 0, .ptr 6 0, .ptr 7 0, .int .i64 (iC raw n ax ws ls ss N C)] none), some (.cells [.slo 3 0 nw 0] none), some (.cells (iW raw n ax ws ls ss N C) (some 1)), some (.cells [.int .i64 sc, .slo 5 0 nl 0] none), some (.cells (iL raw n ax ws ls ss N C) (some 3)), some (.cells [.int .u64 (iN raw n ax ws ls ss N C)] none), some (.cells [.slo 8 0 ns 0] none), some (.cells (iS raw n ax ws ls ss N C) (some 1)), some (.cells [.int .i64 sa, .int .i64 sb, .int .i64 sc, .int .i64 sd, .int .u64 se, .slo 10 0 nw 0, .slo 11 0 nl 0, .int .u64 (iN raw n ax ws ls ss N C), .slo 12 0 ns 0, .int .i64 (iC raw n ax ws ls ss N C)] none), some (.cells (iW raw n ax ws ls ss N C) (some 1)), some (.cells (iL raw n ax ws ls ss N C) (some 3)), some (.cells (iS raw n ax ws ls ss N C) (some 1)), some (.cells [.int .i64 ta, .int .i64 tb, .int .i64 tc, .int .i64 td, .int .u64 te] none), some (.cells [.int .i64 ta, .int .i64 tb, .int .i64 tc, .int .i64 td, .int .u64 te] none), some (.cells [.int .i64 (xmn (xmx ta 32) 256), .int .i64 (xmn (xmx tb 1) 16), .int .i64 (xmn (xmx tc 1) 16), .int .i64 (xmn (xmx td 1) 4), .int .u64 (xmn te 4611686018427387903)] none)] []
   else False
   else False
   else False
   else False
   else False
   else False
   else False
   else False
   else False
   else False
   else False
   else False
   else False
   else False
   else False
   else False
   else False
   else False
   else False
   else False
   else False
   else False
   else False
   else False
   else False
   else False
   else False
   else False
   else False
   else False
   else False
   else False
   else False
   else False
   else False
   else False
   else False
   else False
   else False
   else False
   else False
   else False
   else False
   else False
   else False
   else False
   else False)
  else (
   bif xcm .eql sa sa then
   bif xcm .eql sb sb then
   bif xcm .eql sc sc then
   bif xcm .eql sd sd then
   bif xcm .eql se se then
   bif xcm .eql sa sa then
   bif xcm .eql sb sb then
   bif xcm .eql sc sc then
   bif xcm .eql sd sd then
   bif xcm .eql se se then
   K .ret [.slo 0 0 n 0, .bool raw, .ptr 13 0, .bool false, .ptr 1 0, .ptr 9 0] [some (.ro ax), some (.cells [.int .i64 sa, .int .i64 sb, .int .i64 sc, .int .i64 sd, .int .u64 se, .ptr 2 0, .ptr 4 0, .ptr 6 0, .ptr 7 0, .int .i64 C] none), some (.cells [.slo 3 0 nw 0] none), some (.cells ws (some 1)), some (.cells [.int .i64 sc, .slo 5 0 nl 0] none), some (.cells ls (some 3)), some (.cells [.int .u64 N] none), some (.cells [.slo 8 0 ns 0] none), some (.cells ss (some 1)), some (.cells [.int .i64 sa, .int .i64 sb, .int .i64 sc, .int .i64 sd, .int .u64 se, .slo 10 0 nw 0, .slo 11 0 nl 0, .int .u64 N, .slo 12 0 ns 0, .int .i64 C] none), some (.cells ws (some 1)), some (.cells ls (some 3)), some (.cells ss (some 1)), some (.cells [.int .i64 ta, .int .i64 tb, .int .i64 tc, .int .i64 td, .int .u64 te] none), some (.cells [.int .i64 ta, .int .i64 tb, .int .i64 tc, .int .i64 td, .int .u64 te] none), some (.cells [.int .i64 (xmn (xmx ta 32) 256), .int .i64 (xmn (xmx tb 1) 16), .int .i64 (xmn (xmx tc 1) 16), .int .i64 (xmn (xmx td 1) 4), .int .u64 (xmn te 4611686018427387903)] none)] []
   else False
   else False
   else False
   else False
   else False
   else False
   else False
   else False
   else False
   else False)) := by kernel_rfl
theorem mc_a (sa sb sc sd se : Int) (na nb nc : Nat) (ax bx cx : List LV) (K : Pk) : (xsp Go.Proofs.Try.prog cxp 40 51 (seg (sp Go.Proofs.Try.prog 7) 0 4) (tm0 [.agg (shC sa sb sc sd se), .slo 0 0 na 0, .slo 1 0 nb 0, .slo 2 0 nc 0]) (mkS [.ro ax, .ro bx, .ro cx]) (vK mcL K)) = (
  bif xnn (xmn (xmx (xmn (xmx sa 32) 256) 32) 256) then
  bif xnn (xmn (xmx (xmn (xmx sa 32) 256) 32) 256) then
  bif xle (xnat (xmn (xmx (xmn (xmx sa 32) 256) 32) 256)) (xnat (xmn (xmx (xmn (xmx sa 32) 256) 32) 256)) then
  bif xle (xnat (xmn (xmx (xmn (xmx sa 32) 256) 32) 256)) 100000 then
  bif xnn (xmn (xmx (xmn (xmx sb 1) 16) 1) 16) then
  bif xnn (xmn (xmx (xmn (xmx sb 1) 16) 1) 16) then
  bif xle (xnat (xmn (xmx (xmn (xmx sb 1) 16) 1) 16)) (xnat (xmn (xmx (xmn (xmx sb 1) 16) 1) 16)) then
  bif xle (xnat (xmn (xmx (xmn (xmx sb 1) 16) 1) 16)) 100000 then
  bif xnn (xmn (xmx (xmn (xmx sd 1) 4) 1) 4) then
  bif xnn (xmn (xmx (xmn (xmx sd 1) 4) 1) 4) then
  bif xle (xnat (xmn (xmx (xmn (xmx sd 1) 4) 1) 4)) (xnat (xmn (xmx (xmn (xmx sd 1) 4) 1) 4)) then
  bif xle (xnat (xmn (xmx (xmn (xmx sd 1) 4) 1) 4)) 100000 then
  bif xcm .eql (xmn (xmx sa 32) 256) (xmn (xmx sa 32) 256) then
  bif xcm .eql (xmn (xmx sb 1) 16) (xmn (xmx sb 1) 16) then
  bif xcm .eql (xmn (xmx sc 1) 16) (xmn (xmx sc 1) 16) then
  bif xcm .eql (xmn (xmx sd 1) 4) (xmn (xmx sd 1) 4) then
  bif xcm .eql (xmn se 4611686018427387903) (xmn se 4611686018427387903) then
  bif xcm .eql (xmn (xmx sa 32) 256) (xmn (xmx sa 32) 256) then
  bif xcm .eql (xmn (xmx sb 1) 16) (xmn (xmx sb 1) 16) then
  bif xcm .eql (xmn (xmx sc 1) 16) (xmn (xmx sc 1) 16) then
  bif xcm .eql (xmn (xmx sd 1) 4) (xmn (xmx sd 1) 4) then
  bif xcm .eql (xmn se 4611686018427387903) (xmn se 4611686018427387903) then
  bif xcm .eql (xmn (xmx sa 32) 256) (xmn (xmx sa 32) 256) then
  bif xcm .eql (xmn (xmx sb 1) 16) (xmn (xmx sb 1) 16) then
  bif xcm .eql (xmn (xmx sc 1) 16) (xmn (xmx sc 1) 16) then
  bif xcm .eql (xmn (xmx sd 1) 4) (xmn (xmx sd 1) 4) then
  bif xcm .eql (xmn se 4611686018427387903) (xmn se 4611686018427387903) then
  bif xcm .eql (xmn (xmx sa 32) 256) (xmn (xmx sa 32) 256) then
  bif xcm .eql (xmn (xmx sb 1) 16) (xmn (xmx sb 1) 16) then
  bif xcm .eql (xmn (xmx sc 1) 16) (xmn (xmx sc 1) 16) then
  bif xcm .eql (xmn (xmx sd 1) 4) (xmn (xmx sd 1) 4) then
  bif xcm .eql (xmn se 4611686018427387903) (xmn se 4611686018427387903) then
  bif xcm .eql (xmn (xmx sa 32) 256) (xmn (xmx sa 32) 256) then
  bif xcm .eql (xmn (xmx sb 1) 16) (xmn (xmx sb 1) 16) then
  bif xcm .eql (xmn (xmx sc 1) 16) (xmn (xmx sc 1) 16) then
  bif xcm .eql (xmn (xmx sd 1) 4) (xmn (xmx sd 1) 4) then
  bif xcm .eql (xmn se 4611686018427387903) (xmn se 4611686018427387903) then
  bif xcm .eql (xmn (xmx sa 32) 256) (xmn (xmx sa 32) 256) then
  bif xcm .eql (xmn (xmx sb 1) 16) (xmn (xmx sb 1) 16) then
  bif xcm .eql (xmn (xmx sc 1) 16) (xmn (xmx sc 1) 16) then
  bif xcm .eql (xmn (xmx sd 1) 4) (xmn (xmx sd 1) 4) then
  bif xcm .eql (xmn se 4611686018427387903) (xmn se 4611686018427387903) then
  bif xcm .eql (xmn (xmx sa 32) 256) (xmn (xmx sa 32) 256) then
  bif xcm .eql (xmn (xmx sb 1) 16) (xmn (xmx sb 1) 16) then
  bif xcm .eql (xmn (xmx sc 1) 16) (xmn (xmx sc 1) 16) then
  bif xcm .eql (xmn (xmx sd 1) 4) (xmn (xmx sd 1) 4) then
  bif xcm .eql (xmn se 4611686018427387903) (xmn se 4611686018427387903) then
  bif xcm .eql (xmn (xmx sa 32) 256) (xmn (xmx sa 32) 256) then
  bif xcm .eql (xmn (xmx sb 1) 16) (xmn (xmx sb 1) 16) then
  bif xcm .eql (xmn (xmx sc 1) 16) (xmn (xmx sc 1) 16) then
  bif xcm .eql (xmn (xmx sd 1) 4) (xmn (xmx sd 1) 4) then
  bif xcm .eql (xmn se 4611686018427387903) (xmn se 4611686018427387903) then
  bif xcm .eql (xmn (xmx sb 1) 16) (xmn (xmx sb 1) 16) then
  bif xcm .eql (xmn (xmx sb 1) 16) (xmn (xmx sb 1) 16) then
  bif xcm .eql (xmn (xmx sc 1) 16) (xmn (xmx sc 1) 16) then
  bif xcm .eql (xmn (xmx sc 1) 16) (xmn (xmx sc 1) 16) then
  bif xcm .eql (xmn se 4611686018427387903) (xmn se 4611686018427387903) then
  bif xcm .eql (xmn se 4611686018427387903) (xmn se 4611686018427387903) then
  bif xcm .eql (xmn se 4611686018427387903) (xmn se 4611686018427387903) then
  bif xcm .eql (xmn se 4611686018427387903) (xmn se 4611686018427387903) then
  bif xcm .eql (xmn (xmx sd 1) 4) (xmn (xmx sd 1) 4) then
  bif xcm .eql (xmn (xmx sd 1) 4) (xmn (xmx sd 1) 4) then
  bif xcm .eql (xmn (xmx sd 1) 4) (xmn (xmx sd 1) 4) then
  bif xcm .eql (xmn (xmx sd 1) 4) (xmn (xmx sd 1) 4) then
  bif xcm .eql (xmn (xmx sd 1) 4) (xmn (xmx sd 1) 4) then
  bif xcm .eql (xmn (xmx sd 1) 4) (xmn (xmx sd 1) 4) then
  bif xcm .eql sa sa then
  bif xcm .eql sb sb then
  bif xcm .eql sc sc then
  bif xcm .eql sd sd then
  bif xcm .eql se se then
  bif xcm .eql sa sa then
  bif xcm .eql sb sb then
  bif xcm .eql sc sc then
  bif xcm .eql sd sd then
  bif xcm .eql se se then
  K .normal [.slo 0 0 na 0, .slo 1 0 nb 0, .slo 2 0 nc 0, .bool false, .ptr 14 0, .ptr 15 0, .tup [], .tup []] [some (.ro ax), some (.ro bx), some (.ro cx), some (.cells [.int .i64 sa, .int .i64 sb, .int .i64 sc, .int .i64 sd, .int .u64 se] none), some (.cells [.int .i64 (xmn (xmx sa 32) 256), .int .i64 (xmn (xmx sb 1) 16), .int .i64 (xmn (xmx sc 1) 16), .int .i64 (xmn (xmx sd 1) 4), .int .u64 (xmn se 4611686018427387903)] none), some (.cells [.int .i64 sa, .int .i64 sb, .int .i64 sc, .int .i64 sd, .int .u64 se] none), some (.cells [.int .i64 (xmn (xmx sa 32) 256), .int .i64 (xmn (xmx sb 1) 16), .int .i64 (xmn (xmx sc 1) 16), .int .i64 (xmn (xmx sd 1) 4), .int .u64 (xmn se 4611686018427387903)] none), some (.cells (xrep (xnat (xmn (xmx (xmn (xmx sa 32) 256) 32) 256)) [.int .u64 0]) none), some (.cells [.sl 7 0 (xnat (xmn (xmx (xmn (xmx sa 32) 256) 32) 256)) (xnat (xmn (xmx (xmn (xmx sa 32) 256) 32) 256))] none), some (.cells (xrep (xnat (xmn (xmx (xmn (xmx sb 1) 16) 1) 16)) [.int .u64 0, .bool false, .int .i64 0]) none), some (.cells [.int .i64 (xmn (xmx (xmn (xmx sc 1) 16) 1) 16), .sl 9 0 (xnat (xmn (xmx (xmn (xmx sb 1) 16) 1) 16)) (xnat (xmn (xmx (xmn (xmx sb 1) 16) 1) 16))] none), some (.cells [.int .u64 (xmn (xmn se 4611686018427387903) 4611686018427387903)] none), some (.cells (xrep (xnat (xmn (xmx (xmn (xmx sd 1) 4) 1) 4)) [.int .u64 0]) none), some (.cells [.sl 12 0 (xnat (xmn (xmx (xmn (xmx sd 1) 4) 1) 4)) (xnat (xmn (xmx (xmn (xmx sd 1) 4) 1) 4))] none), some (.cells [.int .i64 (xmn (xmx sa 32) 256), .int .i64 (xmn (xmx sb 1) 16), .int .i64 (xmn (xmx sc 1) 16), .int .i64 (xmn (xmx sd 1) 4), .int .u64 (xmn se 4611686018427387903), .ptr 8 0, .ptr 10 0, .ptr 11 0, .ptr 13 0, .int .i64 0] none), some (.cells [.int .i64 (xmn (xmx sa 32) 256), .int .i64 (xmn (xmx sb 1) 16), .int .i64 (xmn (xmx sc 1) 16), .int .i64 (xmn (xmx sd 1) 4), .int .u64 (xmn se 4611686018427387903), .slo 16 0 (xnat (xmn (xmx sa 32) 256)) 0, .slo 17 0 (xnat (xmn (xmx sb 1) 16)) 0, .int .u64 (xmn se 4611686018427387903), .slo 18 0 (xnat (xmn (xmx sd 1) 4)) 0, .int .i64 0] none), some (.cells (zW (xnat (xmn (xmx sa 32) 256))) (some 1)), some (.cells (zL (xnat (xmn (xmx sb 1) 16))) (some 3)), some (.cells (zW (xnat (xmn (xmx sd 1) 4))) (some 1))] []
  else False
  else False
  else False
  else False
  else False
  else False
  else False
  else False
  else False
  else False
  else False
  else False
  else False
  else False
  else False
  else False
  else False
  else False
  else False
  else False
  else False
  else False
  else False
  else False
  else False
  else False
  else False
  else False
  else False
  else False
  else False
  else False
  else False
  else False
  else False
  else False
  else False
  else False
  else False
  else False
  else False
  else False
  else False
  else False
  else False
  else False
  else False
  else False
  else False
  else False
  else False
  else False
  else False
  else False
  else False
  else False
  else False
  else False
  else False
  else False
  else False
  else False
  else False
  else False
  else False
  else False
  else False
  else False
  else False
  else False
  else False
  else False
  else False
  else False
  else False
  else False) := by kernel_rfl
theorem mc_b (na nb nc : Nat) (sa sb sc sd se N C : Int) (nw nl ns : Nat) (ws ls ss : List LV) (ax bx cx : List LV) (K : Pk) : (xsp Go.Proofs.Try.prog cxp 40 51 (seg (sp Go.Proofs.Try.prog 7) 4 2) (mkTm 51 (mcT na nb nc)) (mkS (mcH sa sb sc sd se N C nw nl ns ws ls ss ax bx cx)) (vK mcL K)) = (
  bif okIu64 ws nw then
  bif okL ls nl then
  bif okIu64 ss ns then
  bif xle nw 1000000 then
  bif xle ns 1000000 then
  bif eqLs ws ws then
  bif eqLs ls ls then
  bif eqLs ss ss then
  bif xeq nw nw then
  bif xeq nl nl then
  bif xeq ns ns then
  bif xcm .eql N N then
  bif xcm .eql C C then
  bif xcm .eql sa sa then
  bif xcm .eql sb sb then
  bif xcm .eql sc sc then
  bif xcm .eql sd sd then
  bif xcm .eql se se then
  bif okR ax na then
  K .normal [.slo 0 0 na 0, .slo 1 0 nb 0, .slo 2 0 nc 0, .any, .ptr 3 0, .ptr 11 0, .any, .any] [some (.ro ax), some (.ro bx), some (.ro cx), some (.cells [.int .i64 sa, .int .i64 sb, .int .i64 sc, .int .i64 sd, .int .u64 se, .ptr 4 0, .ptr 6 0, .ptr 8 0, .ptr 9 0, .int .i64 (iC false na ax ws ls ss N C)] none), some (.cells [.slo 5 0 nw 0] none), some (.cells (iW false na ax ws ls ss N C) (some 1)), some (.cells [.int .i64 sc, .slo 7 0 nl 0] none), some (.cells (iL false na ax ws ls ss N C) (some 3)), some (.cells [.int .u64 (iN false na ax ws ls ss N C)] none), some (.cells [.slo 10 0 ns 0] none), some (.cells (iS false na ax ws ls ss N C) (some 1)), some (.cells [.int .i64 sa, .int .i64 sb, .int .i64 sc, .int .i64 sd, .int .u64 se, .slo 12 0 nw 0, .slo 13 0 nl 0, .int .u64 (iN false na ax ws ls ss N C), .slo 14 0 ns 0, .int .i64 (iC false na ax ws ls ss N C)] none), some (.cells (iW false na ax ws ls ss N C) (some 1)), some (.cells (iL false na ax ws ls ss N C) (some 3)), some (.cells (iS false na ax ws ls ss N C) (some 1))] []
  else False
  else False
  else False
  else False
  else False
  else False
  else False
  else False
  else False
  else False
  else False
  else False
  else False
  else False
  else False
  else False
  else False
  else False
  else False) := by kernel_rfl
theorem mc_z (na nb nc : Nat) (sa sb sc sd se N C : Int) (nw nl ns : Nat) (ws ls ss : List LV) (ax bx cx : List LV) (K : Pk) : (xsp Go.Proofs.Try.prog cxp 40 51 ((sp Go.Proofs.Try.prog 7).drop 7) (mkTm 51 (mcU na nb nc)) (mkS (mcI sa sb sc sd se N C nw nl ns ws ls ss ax bx cx)) (vK mcL K)) = (
  bif okIu64 ws nw then
  bif okL ls nl then
  bif okIu64 ss ns then
  bif xle nw 1000000 then
  bif xle ns 1000000 then
  bif eqLs ws ws then
  bif eqLs ls ls then
  bif eqLs ss ss then
  bif xeq nw nw then
  bif xeq nl nl then
  bif xeq ns ns then
  bif xcm .eql N N then
  bif xcm .eql C C then
  bif xcm .eql sa sa then
  bif xcm .eql sb sb then
  bif xcm .eql sc sc then
  bif xcm .eql sd sd then
  bif xcm .eql se se then
  bif okR bx nb then
  bif okIu64 ws nw then
  bif okL ls nl then
  bif okIu64 ss ns then
  bif xle nw 1000000 then
  bif xle ns 1000000 then
  bif eqLs ws ws then
  bif eqLs ls ls then
  bif eqLs ss ss then
  bif xeq nw nw then
  bif xeq nl nl then
  bif xeq ns ns then
  bif xcm .eql N N then
  bif xcm .eql C C then
  bif xcm .eql sa sa then
  bif xcm .eql sb sb then
  bif xcm .eql sc sc then
  bif xcm .eql sd sd then
  bif xcm .eql se se then
  bif okR cx nc then
  bif okIu64 (iW false nb bx ws ls ss N C) nw then
  bif okL (iL false nb bx ws ls ss N C) nl then
  bif okIu64 (iS false nb bx ws ls ss N C) ns then
  bif xle nw 1000000 then
  bif xle ns 1000000 then
  bif eqLs (iW false nb bx ws ls ss N C) (iW false nb bx ws ls ss N C) then
  bif eqLs (iL false nb bx ws ls ss N C) (iL false nb bx ws ls ss N C) then
  bif eqLs (iS false nb bx ws ls ss N C) (iS false nb bx ws ls ss N C) then
  bif xeq nw nw then
  bif xeq nl nl then
  bif xeq ns ns then
  bif xcm .eql (iN false nb bx ws ls ss N C) (iN false nb bx ws ls ss N C) then
  bif xcm .eql (iC false nb bx ws ls ss N C) (iC false nb bx ws ls ss N C) then
  bif xcm .eql sa sa then
  bif xcm .eql sb sb then
  bif xcm .eql sc sc then
  bif xcm .eql sd sd then
  bif xcm .eql se se then
  K .ret [.slo 0 0 na 0, .slo 1 0 nb 0, .slo 2 0 nc 0, .bool true, .ptr 3 0, .ptr 11 0, .ptr 15 0, .ptr 23 0] [some (.ro ax), some (.ro bx), some (.ro cx), some (.cells [.int .i64 sa, .int .i64 sb, .int .i64 sc, .int .i64 sd, .int .u64 se, .ptr 4 0, .ptr 6 0, .ptr 8 0, .ptr 9 0, .int .i64 (iC false nc cx ws ls ss N C)] none), some (.cells [.slo 5 0 nw 0] none), some (.cells (iW false nc cx ws ls ss N C) (some 1)), some (.cells [.int .i64 sc, .slo 7 0 nl 0] none), some (.cells (iL false nc cx ws ls ss N C) (some 3)), some (.cells [.int .u64 (iN false nc cx ws ls ss N C)] none), some (.cells [.slo 10 0 ns 0] none), some (.cells (iS false nc cx ws ls ss N C) (some 1)), some (.cells [.int .i64 sa, .int .i64 sb, .int .i64 sc, .int .i64 sd, .int .u64 se, .slo 12 0 nw 0, .slo 13 0 nl 0, .int .u64 (iN false nc cx ws ls ss N C), .slo 14 0 ns 0, .int .i64 (iC false nc cx ws ls ss N C)] none), some (.cells (iW false nc cx ws ls ss N C) (some 1)), some (.cells (iL false nc cx ws ls ss N C) (some 3)), some (.cells (iS false nc cx ws ls ss N C) (some 1)), some (.cells [.int .i64 sa, .int .i64 sb, .int .i64 sc, .int .i64 sd, .int .u64 se, .ptr 16 0, .ptr 18 0, .ptr 20 0, .ptr 21 0, .int .i64 (iC false nb bx ws ls ss N C)] none), some (.cells [.slo 17 0 nw 0] none), some (.cells (iW false nb bx ws ls ss N C) (some 1)), some (.cells [.int .i64 sc, .slo 19 0 nl 0] none), some (.cells (iL false nb bx ws ls ss N C) (some 3)), some (.cells [.int .u64 (iN false nb bx ws ls ss N C)] none), some (.cells [.slo 22 0 ns 0] none), some (.cells (iS false nb bx ws ls ss N C) (some 1)), some (.cells [.int .i64 sa, .int .i64 sb, .int .i64 sc, .int .i64 sd, .int .u64 se, .slo 24 0 nw 0, .slo 25 0 nl 0, .int .u64 (iN false nb bx ws ls ss N C), .slo 26 0 ns 0, .int .i64 (iC false nb bx ws ls ss N C)] none), some (.cells (iW false nb bx ws ls ss N C) (some 1)), some (.cells (iL false nb bx ws ls ss N C) (some 3)), some (.cells (iS false nb bx ws ls ss N C) (some 1))] []
  else False
  else False
  else False
  else False
  else False
  else False
  else False
  else False
  else False
  else False
  else False
  else False
  else False
  else False
  else False
  else False
  else False
  else False
  else False
  else False
  else False
  else False
  else False
  else False
  else False
  else False
  else False
  else False
  else False
  else False
  else False
  else False
  else False
  else False
  else False
  else False
  else False
  else False
  else False
  else False
  else False
  else False
  else False
  else False
  else False
  else False
  else False
  else False
  else False
  else False
  else False
  else False
  else False
  else False
  else False
  else False) := by kernel_rfl
end
end Go.Lev
