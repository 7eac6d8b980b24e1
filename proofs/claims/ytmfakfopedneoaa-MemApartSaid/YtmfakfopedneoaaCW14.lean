/- MemApart: trees -/
import Derived.Test.YtmfakfopedneoaaCW10A
import Derived.Test.YtmfakfopedneoaaLc
import Derived.Test.YtmfakfopedneoaaChecked
import Derived.KernelRfl

namespace Go.Lev
open Go.RowKit
set_option linter.unusedVariables false
set_option linter.unusedSimpArgs false
set_option maxRecDepth 100000
noncomputable section
def cxq6 : Cx := cxl [(3, runG), (17, newmemG), (20, doG), (22, nearG), (9, mdoG), (56, cloneG 1), (57, cloneG 3)]
abbrev maL : List Nat := [1, 5, 6, 7, 8, 9, 10, 11, 12, 13, 14, 15, 16, 17, 18, 19, 20]
abbrev maT (n : Nat) : List (Nat × LV) := [(1, .slo 0 0 n 0), (5, .ptr 13 0), (7, .ptr 1 0), (8, .ptr 9 0)]
abbrev maH (sa sb sc sd se N C : Int) (nw nl ns : Nat) (ws ls ss : List LV) (k a old w wv : Int) (wh : Bool) (wo lv : Int) (lh : Bool) (lo : Int) (ax : List LV) : List LB := [.ro ax, .cells [.int .i64 sa, .int .i64 sb, .int .i64 sc, .int .i64 sd, .int .u64 se, .ptr 2 0, .ptr 4 0, .ptr 6 0, .ptr 7 0, .int .i64 C] none, .cells [.slo 3 0 nw 0] none, .cells ws (some 1), .cells [.int .i64 sc, .slo 5 0 nl 0] none, .cells ls (some 3), .cells [.int .u64 N] none, .cells [.slo 8 0 ns 0] none, .cells ss (some 1), .cells [.int .i64 sa, .int .i64 sb, .int .i64 sc, .int .i64 sd, .int .u64 se, .slo 10 0 nw 0, .slo 11 0 nl 0, .int .u64 N, .slo 12 0 ns 0, .int .i64 C] none, .cells ws (some 1), .cells ls (some 3), .cells ss (some 1), .cells (opC k a old w wv wh wo lv lh lo) none]
abbrev maU (N : Int) (nw nl ns : Nat) : List (Nat × LV) := [(5, .ptr 9 0), (7, .ptr 1 0), (9, .slo 10 0 nw 0), (10, .slo 11 0 nl 0), (11, .int .u64 N), (12, .slo 12 0 ns 0)]
abbrev maI (sa sb sc sd se N C : Int) (nw nl ns : Nat) (ws ls ss : List LV) (k a old w wv : Int) (wh : Bool) (wo lv : Int) (lh : Bool) (lo : Int) (ax : List LV) : List LB := [.ro ax, .cells [.int .i64 sa, .int .i64 sb, .int .i64 sc, .int .i64 sd, .int .u64 se, .ptr 2 0, .ptr 4 0, .ptr 6 0, .ptr 7 0, .int .i64 C] none, .cells [.slo 3 0 nw 0] none, .cells ws (some 1), .cells [.int .i64 sc, .slo 5 0 nl 0] none, .cells ls (some 3), .cells [.int .u64 N] none, .cells [.slo 8 0 ns 0] none, .cells ss (some 1), .cells (opC k a old w wv wh wo lv lh lo) none, .cells ws (some 1), .cells ls (some 3), .cells ss (some 1)]
abbrev maV (N : Int) (nw nl ns : Nat) : List (Nat × LV) := [(5, .ptr 9 0), (7, .ptr 1 0), (9, .slo 10 0 nw 0), (10, .slo 11 0 nl 0), (11, .int .u64 N), (12, .slo 12 0 ns 0), (13, .ptr 13 0)]
abbrev maJ (sa sb sc sd se N C : Int) (nw nl ns : Nat) (ws ls ss : List LV) (k a old w wv : Int) (wh : Bool) (wo lv : Int) (lh : Bool) (lo : Int) (aw av : Int) (ah : Bool) (ao : Int) (ad : Bool) (ae : Int) (vs ks es ax : List LV) : List LB := [.ro ax, .cells [.int .i64 sa, .int .i64 sb, .int .i64 sc, .int .i64 sd, .int .u64 se, .ptr 2 0, .ptr 4 0, .ptr 6 0, .ptr 7 0, .int .i64 C] none, .cells [.slo 3 0 nw 0] none, .cells ws (some 1), .cells [.int .i64 sc, .slo 5 0 nl 0] none, .cells ls (some 3), .cells [.int .u64 N] none, .cells [.slo 8 0 ns 0] none, .cells ss (some 1), .cells (opC k a old w wv wh wo lv lh lo) none, .cells vs (some 1), .cells ks (some 3), .cells es (some 1), .cells (ansC aw av ah ao ad ae) none]
abbrev maW1 (N N' : Int) (nw nl ns i : Nat) : List (Nat × LV) := [(5, .ptr 1 0), (9, .slo 2 0 nw 0), (10, .slo 3 0 nl 0), (11, .int .u64 N), (12, .slo 4 0 ns 0), (13, .ptr 5 0), (14, .slo 6 0 nw 0), (15, .slo 7 0 nl 0), (16, .int .u64 N'), (17, .slo 8 0 ns 0), (18, .int .i64 i)]
abbrev maW2 (N N' : Int) (nw nl ns i : Nat) : List (Nat × LV) := [(5, .ptr 1 0), (9, .slo 2 0 nw 0), (10, .slo 3 0 nl 0), (11, .int .u64 N), (12, .slo 4 0 ns 0), (13, .ptr 5 0), (14, .slo 6 0 nw 0), (15, .slo 7 0 nl 0), (16, .int .u64 N'), (17, .slo 8 0 ns 0), (19, .int .i64 i)]
abbrev maW3 (N N' : Int) (nw nl ns i : Nat) : List (Nat × LV) := [(5, .ptr 1 0), (9, .slo 2 0 nw 0), (10, .slo 3 0 nl 0), (11, .int .u64 N), (12, .slo 4 0 ns 0), (13, .ptr 5 0), (14, .slo 6 0 nw 0), (15, .slo 7 0 nl 0), (16, .int .u64 N'), (17, .slo 8 0 ns 0), (20, .int .i64 i)]
abbrev maX (k a old w wv : Int) (wh : Bool) (wo lv : Int) (lh : Bool) (lo : Int) (aw av : Int) (ah : Bool) (ao : Int) (ad : Bool) (ae : Int) (ws ls ss vs ks es ax : List LV) : List LB := [.ro ax, .cells (opC k a old w wv wh wo lv lh lo) none, .cells ws (some 1), .cells ls (some 3), .cells ss (some 1), .cells (ansC aw av ah ao ad ae) none, .cells vs (some 1), .cells ks (some 3), .cells es (some 1)]
theorem ma_a (sa sb sc sd se : Int) (n : Nat) (k a old w wv : Int) (wh : Bool) (wo lv : Int) (lh : Bool) (lo : Int) (ax : List LV) (K : Pk) : (xsp Go.Proofs.Try.prog cxq6 40 210 (seg (sp Go.Proofs.Try.prog 6) 0 4) (tm0 [.agg (shC sa sb sc sd se), .slo 0 0 n 0, .agg (opC k a old w wv wh wo lv lh lo)]) (mkS [.ro ax]) (vK maL K)) = (
  bif xnn (xmn (xmx (xmn (xmx sa 32) 256) 32) 256) then
  bif xnn (xmn (xmx (xmn (xmx sa 32) 256) 32) 256) then
  bif xle (xnat (xmn (xmx (xmn (xmx sa 32) 256) 32) 256)) (xnat (xmn (xmx (xmn (xmx sa 32) 256) 32) 256)) then
  bif xle (xnat (xmn (xmx (xmn (xmx sa 32) 256) 32) 256)) 100000 then
  bif xnn (xmn (xmx (xmn (xmx sb 1) 16) 1) 16) then
  bif xnn (xmn (xmx (xmn (xmx sb 1) 16) 1) 16) then
  bif xle (xnat (xmn (xmx (xmn (xmx sb 1) 16) 1) 16)) (xnat (xmn (xmx (xmn (xmx sb 1) 16) 1) 16)) then
  bif xle (xnat (xmn (xmx (xmn (xmx sb 1) 16) 1) 16)) 100000 then
  bif xnn (xmn (xmx (xmn (xmx sd 1) 4) 1) 4) then
  bif xnn (xmn (xmx (xmn (xmx sd 1) 4) 1) 4) then
  bif xle (xnat (xmn (xmx (xmn (xmx sd 1) 4) 1) 4)) (xnat (xmn (xmx (xmn (xmx sd 1) 4) 1) 4)) then
  bif xle (xnat (xmn (xmx (xmn (xmx sd 1) 4) 1) 4)) 100000 then
  bif xcm .eql (xmn (xmx sa 32) 256) (xmn (xmx sa 32) 256) then
  bif xcm .eql (xmn (xmx sb 1) 16) (xmn (xmx sb 1) 16) then
  bif xcm .eql (xmn (xmx sc 1) 16) (xmn (xmx sc 1) 16) then
  bif xcm .eql (xmn (xmx sd 1) 4) (xmn (xmx sd 1) 4) then
  bif xcm .eql (xmn se 4611686018427387903) (xmn se 4611686018427387903) then
  bif xcm .eql (xmn (xmx sa 32) 256) (xmn (xmx sa 32) 256) then
  bif xcm .eql (xmn (xmx sb 1) 16) (xmn (xmx sb 1) 16) then
  bif xcm .eql (xmn (xmx sc 1) 16) (xmn (xmx sc 1) 16) then
  bif xcm .eql (xmn (xmx sd 1) 4) (xmn (xmx sd 1) 4) then
  bif xcm .eql (xmn se 4611686018427387903) (xmn se 4611686018427387903) then
  bif xcm .eql (xmn (xmx sa 32) 256) (xmn (xmx sa 32) 256) then
  bif xcm .eql (xmn (xmx sb 1) 16) (xmn (xmx sb 1) 16) then
  bif xcm .eql (xmn (xmx sc 1) 16) (xmn (xmx sc 1) 16) then
  bif xcm .eql (xmn (xmx sd 1) 4) (xmn (xmx sd 1) 4) then
  bif xcm .eql (xmn se 4611686018427387903) (xmn se 4611686018427387903) then
  bif xcm .eql (xmn (xmx sa 32) 256) (xmn (xmx sa 32) 256) then
  bif xcm .eql (xmn (xmx sb 1) 16) (xmn (xmx sb 1) 16) then
  bif xcm .eql (xmn (xmx sc 1) 16) (xmn (xmx sc 1) 16) then
  bif xcm .eql (xmn (xmx sd 1) 4) (xmn (xmx sd 1) 4) then
  bif xcm .eql (xmn se 4611686018427387903) (xmn se 4611686018427387903) then
  bif xcm .eql (xmn (xmx sa 32) 256) (xmn (xmx sa 32) 256) then
  bif xcm .eql (xmn (xmx sb 1) 16) (xmn (xmx sb 1) 16) then
  bif xcm .eql (xmn (xmx sc 1) 16) (xmn (xmx sc 1) 16) then
  bif xcm .eql (xmn (xmx sd 1) 4) (xmn (xmx sd 1) 4) then
  bif xcm .eql (xmn se 4611686018427387903) (xmn se 4611686018427387903) then
  bif xcm .eql (xmn (xmx sa 32) 256) (xmn (xmx sa 32) 256) then
  bif xcm .eql (xmn (xmx sb 1) 16) (xmn (xmx sb 1) 16) then
  bif xcm .eql (xmn (xmx sc 1) 16) (xmn (xmx sc 1) 16) then
  bif xcm .eql (xmn (xmx sd 1) 4) (xmn (xmx sd 1) 4) then
  bif xcm .eql (xmn se 4611686018427387903) (xmn se 4611686018427387903) then
  bif xcm .eql (xmn (xmx sa 32) 256) (xmn (xmx sa 32) 256) then
  bif xcm .eql (xmn (xmx sb 1) 16) (xmn (xmx sb 1) 16) then
  bif xcm .eql (xmn (xmx sc 1) 16) (xmn (xmx sc 1) 16) then
  bif xcm .eql (xmn (xmx sd 1) 4) (xmn (xmx sd 1) 4) then
  bif xcm .eql (xmn se 4611686018427387903) (xmn se 4611686018427387903) then
  bif xcm .eql (xmn (xmx sa 32) 256) (xmn (xmx sa 32) 256) then
  bif xcm .eql (xmn (xmx sb 1) 16) (xmn (xmx sb 1) 16) then
  bif xcm .eql (xmn (xmx sc 1) 16) (xmn (xmx sc 1) 16) then
  bif xcm .eql (xmn (xmx sd 1) 4) (xmn (xmx sd 1) 4) then
  bif xcm .eql (xmn se 4611686018427387903) (xmn se 4611686018427387903) then
  bif xcm .eql (xmn (xmx sb 1) 16) (xmn (xmx sb 1) 16) then
  bif xcm .eql (xmn (xmx sb 1) 16) (xmn (xmx sb 1) 16) then
  bif xcm .eql (xmn (xmx sc 1) 16) (xmn (xmx sc 1) 16) then
  bif xcm .eql (xmn (xmx sc 1) 16) (xmn (xmx sc 1) 16) then
  bif xcm .eql (xmn se 4611686018427387903) (xmn se 4611686018427387903) then
  bif xcm .eql (xmn se 4611686018427387903) (xmn se 4611686018427387903) then
  bif xcm .eql (xmn se 4611686018427387903) (xmn se 4611686018427387903) then
  bif xcm .eql (xmn se 4611686018427387903) (xmn se 4611686018427387903) then
  bif xcm .eql (xmn (xmx sd 1) 4) (xmn (xmx sd 1) 4) then
  bif xcm .eql (xmn (xmx sd 1) 4) (xmn (xmx sd 1) 4) then
  bif xcm .eql (xmn (xmx sd 1) 4) (xmn (xmx sd 1) 4) then
  bif xcm .eql (xmn (xmx sd 1) 4) (xmn (xmx sd 1) 4) then
  bif xcm .eql (xmn (xmx sd 1) 4) (xmn (xmx sd 1) 4) then
  bif xcm .eql (xmn (xmx sd 1) 4) (xmn (xmx sd 1) 4) then
  bif xcm .eql sa sa then
  bif xcm .eql sb sb then
  bif xcm .eql sc sc then
  bif xcm .eql sd sd then
  bif xcm .eql se se then
  bif xcm .eql sa sa then
  bif xcm .eql sb sb then
  bif xcm .eql sc sc then
  bif xcm .eql sd sd then
  bif xcm .eql se se then
  K .normal [.slo 0 0 n 0, .ptr 2 0, .bool false, .ptr 13 0, .ptr 14 0, .tup [], .tup [], .tup [], .tup [], .tup [], .tup [], .tup [], .tup [], .tup [], .tup [], .tup [], .tup []] [some (.ro ax), some (.cells [.int .i64 sa, .int .i64 sb, .int .i64 sc, .int .i64 sd, .int .u64 se] none), some (.cells [.int .i64 k, .int .i64 a, .int .u64 old, .int .u64 w, .int .u64 wv, .bool wh, .int .i64 wo, .int .u64 lv, .bool lh, .int .i64 lo] none), some (.cells [.int .i64 (xmn (xmx sa 32) 256), .int .i64 (xmn (xmx sb 1) 16), .int .i64 (xmn (xmx sc 1) 16), .int .i64 (xmn (xmx sd 1) 4), .int .u64 (xmn se 4611686018427387903)] none), some (.cells [.int .i64 sa, .int .i64 sb, .int .i64 sc, .int .i64 sd, .int .u64 se] none), some (.cells [.int .i64 (xmn (xmx sa 32) 256), .int .i64 (xmn (xmx sb 1) 16), .int .i64 (xmn (xmx sc 1) 16), .int .i64 (xmn (xmx sd 1) 4), .int .u64 (xmn se 4611686018427387903)] none), some (.cells (xrep (xnat (xmn (xmx (xmn (xmx sa 32) 256) 32) 256)) [.int .u64 0]) none), some (.cells [.sl 6 0 (xnat (xmn (xmx (xmn (xmx sa 32) 256) 32) 256)) (xnat (xmn (xmx (xmn (xmx sa 32) 256) 32) 256))] none), some (.cells (xrep (xnat (xmn (xmx (xmn (xmx sb 1) 16) 1) 16)) [.int .u64 0, .bool false, .int .i64 0]) none), some (.cells [.int .i64 (xmn (xmx (xmn (xmx sc 1) 16) 1) 16), .sl 8 0 (xnat (xmn (xmx (xmn (xmx sb 1) 16) 1) 16)) (xnat (xmn (xmx (xmn (xmx sb 1) 16) 1) 16))] none), some (.cells [.int .u64 (xmn (xmn se 4611686018427387903) 4611686018427387903)] none), some (.cells (xrep (xnat (xmn (xmx (xmn (xmx sd 1) 4) 1) 4)) [.int .u64 0]) none), some (.cells [.sl 11 0 (xnat (xmn (xmx (xmn (xmx sd 1) 4) 1) 4)) (xnat (xmn (xmx (xmn (xmx sd 1) 4) 1) 4))] none), some (.cells [.int .i64 (xmn (xmx sa 32) 256), .int .i64 (xmn (xmx sb 1) 16), .int .i64 (xmn (xmx sc 1) 16), .int .i64 (xmn (xmx sd 1) 4), .int .u64 (xmn se 4611686018427387903), .ptr 7 0, .ptr 9 0, .ptr 10 0, .ptr 12 0, .int .i64 0] none), some (.cells [.int .i64 (xmn (xmx sa 32) 256), .int .i64 (xmn (xmx sb 1) 16), .int .i64 (xmn (xmx sc 1) 16), .int .i64 (xmn (xmx sd 1) 4), .int .u64 (xmn se 4611686018427387903), .slo 15 0 (xnat (xmn (xmx sa 32) 256)) 0, .slo 16 0 (xnat (xmn (xmx sb 1) 16)) 0, .int .u64 (xmn se 4611686018427387903), .slo 17 0 (xnat (xmn (xmx sd 1) 4)) 0, .int .i64 0] none), some (.cells (zW (xnat (xmn (xmx sa 32) 256))) (some 1)), some (.cells (zL (xnat (xmn (xmx sb 1) 16))) (some 3)), some (.cells (zW (xnat (xmn (xmx sd 1) 4))) (some 1))] []
  else False
  else False
  else False
  else False
  else False
  else False
  else False
  else False
  else False
  else False
  else False
  else False
  else False
  else False
  else False
  else False
  else False
  else False
  else False
  else False
  else False
  else False
  else False
  else False
  else False
  else False
  else False
  else False
  else False
  else False
  else False
  else False
  else False
  else False
  else False
  else False
  else False
  else False
  else False
  else False
  else False
  else False
  else False
  else False
  else False
  else False
  else False
  else False
  else False
  else False
  else False
  else False
  else False
  else False
  else False
  else False
  else False
  else False
  else False
  else False
  else False
  else False
  else False
  else False
  else False
  else False
  else False
  else False
  else False
  else False
  else False
  else False
  else False
  else False
  else False
  else False) := by kernel_rfl
theorem ma_b (n : Nat) (sa sb sc sd se N C : Int) (nw nl ns : Nat) (ws ls ss : List LV) (k a old w wv : Int) (wh : Bool) (wo lv : Int) (lh : Bool) (lo : Int) (ax : List LV) (K : Pk) : (xsp Go.Proofs.Try.prog cxq6 40 210 (seg (sp Go.Proofs.Try.prog 6) 4 2) (mkTm 210 (maT n)) (mkS (maH sa sb sc sd se N C nw nl ns ws ls ss k a old w wv wh wo lv lh lo ax)) (vK maL K)) = (
  bif okIu64 ws nw then
  bif okL ls nl then
  bif okIu64 ss ns then
  bif xle nw 1000000 then
  bif xle ns 1000000 then
  bif eqLs ws ws then
  bif eqLs ls ls then
  bif eqLs ss ss then
  bif xeq nw nw then
  bif xeq nl nl then
  bif xeq ns ns then
  bif xcm .eql N N then
  bif xcm .eql C C then
  bif xcm .eql sa sa then
  bif xcm .eql sb sb then
  bif xcm .eql sc sc then
  bif xcm .eql sd sd then
  bif xcm .eql se se then
  bif okR ax n then
  K .normal [.slo 0 0 n 0, .ptr 13 0, .any, .ptr 1 0, .ptr 9 0, .any, .any, .any, .any, .any, .any, .any, .any, .any, .any, .any, .any] [some (.ro ax), some (.cells [.int .i64 sa, .int .i64 sb, .int .i64 sc, .int .i64 sd, .int .u64 se, .ptr 2 0, .ptr 4 0, .ptr 6 0, .ptr 7 0, .int .i64 (iC false n ax ws ls ss N C)] none), some (.cells [.slo 3 0 nw 0] none), some (.cells (iW false n ax ws ls ss N C) (some 1)), some (.cells [.int .i64 sc, .slo 5 0 nl 0] none), some (.cells (iL false n ax ws ls ss N C) (some 3)), some (.cells [.int .u64 (iN false n ax ws ls ss N C)] none), some (.cells [.slo 8 0 ns 0] none), some (.cells (iS false n ax ws ls ss N C) (some 1)), some (.cells [.int .i64 sa, .int .i64 sb, .int .i64 sc, .int .i64 sd, .int .u64 se, .slo 10 0 nw 0, .slo 11 0 nl 0, .int .u64 (iN false n ax ws ls ss N C), .slo 12 0 ns 0, .int .i64 (iC false n ax ws ls ss N C)] none), some (.cells (iW false n ax ws ls ss N C) (some 1)), some (.cells (iL false n ax ws ls ss N C) (some 3)), some (.cells (iS false n ax ws ls ss N C) (some 1)), some (.cells [.int .i64 k, .int .i64 a, .int .u64 old, .int .u64 w, .int .u64 wv, .bool wh, .int .i64 wo, .int .u64 lv, .bool lh, .int .i64 lo] none)] []
  else False
  else False
  else False
  else False
  else False
  else False
  else False
  else False
  else False
  else False
  else False
  else False
  else False
  else False
  else False
  else False
  else False
  else False
  else False) := by kernel_rfl
theorem ma_c (n : Nat) (sa sb sc sd se N C : Int) (nw nl ns : Nat) (ws ls ss : List LV) (k a old w wv : Int) (wh : Bool) (wo lv : Int) (lh : Bool) (lo : Int) (ax : List LV) (K : Pk) : (xsp Go.Proofs.Try.prog cxq6 40 210 (seg (sp Go.Proofs.Try.prog 6) 6 1) (mkTm 210 (maT n)) (mkS (maH sa sb sc sd se N C nw nl ns ws ls ss k a old w wv wh wo lv lh lo ax)) (vK maL K)) = (
  bif okIu64 ws nw then
  bif okL ls nl then
  bif okIu64 ss ns then
  bif xle nw 1000000 then
  bif xle ns 1000000 then
  bif okO [.int .i64 k, .int .i64 a, .int .u64 old, .int .u64 w, .int .u64 wv, .bool wh, .int .i64 wo, .int .u64 lv, .bool lh, .int .i64 lo] then
  K .normal [.slo 0 0 n 0, .ptr 13 0, .any, .ptr 1 0, .ptr 9 0, .any, .any, .any, .any, .any, .any, .any, .any, .any, .any, .any, .any] [some (.ro ax), some (.cells [.int .i64 sa, .int .i64 sb, .int .i64 sc, .int .i64 sd, .int .u64 se, .ptr 2 0, .ptr 4 0, .ptr 6 0, .ptr 7 0, .int .i64 C] none), some (.cells [.slo 3 0 nw 0] none), some (.cells ws (some 1)), some (.cells [.int .i64 sc, .slo 5 0 nl 0] none), some (.cells ls (some 3)), some (.cells [.int .u64 N] none), some (.cells [.slo 8 0 ns 0] none), some (.cells ss (some 1)), some (.cells [.int .i64 sa, .int .i64 sb, .int .i64 sc, .int .i64 sd, .int .u64 se, .slo 10 0 nw 0, .slo 11 0 nl 0, .int .u64 N, .slo 12 0 ns 0, .int .i64 C] none), some (.cells ws (some 1)), some (.cells ls (some 3)), some (.cells ss (some 1)), some (.cells [.int .i64 (nrK false ws ls ss N C [.int .i64 k, .int .i64 a, .int .u64 old, .int .u64 w, .int .u64 wv, .bool wh, .int .i64 wo, .int .u64 lv, .bool lh, .int .i64 lo]), .int .i64 (nrA false ws ls ss N C [.int .i64 k, .int .i64 a, .int .u64 old, .int .u64 w, .int .u64 wv, .bool wh, .int .i64 wo, .int .u64 lv, .bool lh, .int .i64 lo]), .int .u64 (nrO false ws ls ss N C [.int .i64 k, .int .i64 a, .int .u64 old, .int .u64 w, .int .u64 wv, .bool wh, .int .i64 wo, .int .u64 lv, .bool lh, .int .i64 lo]), .int .u64 (nrW false ws ls ss N C [.int .i64 k, .int .i64 a, .int .u64 old, .int .u64 w, .int .u64 wv, .bool wh, .int .i64 wo, .int .u64 lv, .bool lh, .int .i64 lo]), .int .u64 (nrWv false ws ls ss N C [.int .i64 k, .int .i64 a, .int .u64 old, .int .u64 w, .int .u64 wv, .bool wh, .int .i64 wo, .int .u64 lv, .bool lh, .int .i64 lo]), .bool (nrWh false ws ls ss N C [.int .i64 k, .int .i64 a, .int .u64 old, .int .u64 w, .int .u64 wv, .bool wh, .int .i64 wo, .int .u64 lv, .bool lh, .int .i64 lo]), .int .i64 (nrWo false ws ls ss N C [.int .i64 k, .int .i64 a, .int .u64 old, .int .u64 w, .int .u64 wv, .bool wh, .int .i64 wo, .int .u64 lv, .bool lh, .int .i64 lo]), .int .u64 (nrLv false ws ls ss N C [.int .i64 k, .int .i64 a, .int .u64 old, .int .u64 w, .int .u64 wv, .bool wh, .int .i64 wo, .int .u64 lv, .bool lh, .int .i64 lo]), .bool (nrLh false ws ls ss N C [.int .i64 k, .int .i64 a, .int .u64 old, .int .u64 w, .int .u64 wv, .bool wh, .int .i64 wo, .int .u64 lv, .bool lh, .int .i64 lo]), .int .i64 (nrLo false ws ls ss N C [.int .i64 k, .int .i64 a, .int .u64 old, .int .u64 w, .int .u64 wv, .bool wh, .int .i64 wo, .int .u64 lv, .bool lh, .int .i64 lo])] none)] []
  else False
  else False
  else False
  else False
  else False
  else False) := by kernel_rfl
theorem ma_d (n : Nat) (sa sb sc sd se N C : Int) (nw nl ns : Nat) (ws ls ss : List LV) (k a old w wv : Int) (wh : Bool) (wo lv : Int) (lh : Bool) (lo : Int) (ax : List LV) (K : Pk) : (xsp Go.Proofs.Try.prog cxq6 40 210 (seg (sp Go.Proofs.Try.prog 6) 7 1) (mkTm 210 (maT n)) (mkS (maH sa sb sc sd se N C nw nl ns ws ls ss k a old w wv wh wo lv lh lo ax)) (vK maL K)) = (
  bif xle nw 1000000 then
  bif xeq (xln ws) (xmul nw 1) then
  bif xnoid ws then
  bif xle nl 1000000 then
  bif xeq (xln ls) (xmul nl 3) then
  bif xnoid ls then
  bif xle ns 1000000 then
  bif xeq (xln ss) (xmul ns 1) then
  bif xnoid ss then
  K .normal [.slo 0 0 n 0, .ptr 13 0, .any, .ptr 1 0, .ptr 9 0, .slo 14 0 nw 0, .slo 15 0 nl 0, .int .u64 N, .slo 16 0 ns 0, .any, .any, .any, .any, .any, .any, .any, .any] [some (.ro ax), some (.cells [.int .i64 sa, .int .i64 sb, .int .i64 sc, .int .i64 sd, .int .u64 se, .ptr 2 0, .ptr 4 0, .ptr 6 0, .ptr 7 0, .int .i64 C] none), some (.cells [.slo 3 0 nw 0] none), some (.cells ws (some 1)), some (.cells [.int .i64 sc, .slo 5 0 nl 0] none), some (.cells ls (some 3)), some (.cells [.int .u64 N] none), some (.cells [.slo 8 0 ns 0] none), some (.cells ss (some 1)), some (.cells [.int .i64 sa, .int .i64 sb, .int .i64 sc, .int .i64 sd, .int .u64 se, .slo 10 0 nw 0, .slo 11 0 nl 0, .int .u64 N, .slo 12 0 ns 0, .int .i64 C] none), some (.cells ws (some 1)), some (.cells ls (some 3)), some (.cells ss (some 1)), some (.cells [.int .i64 k, .int .i64 a, .int .u64 old, .int .u64 w, .int .u64 wv, .bool wh, .int .i64 wo, .int .u64 lv, .bool lh, .int .i64 lo] none), some (.cells ws (some 1)), some (.cells ls (some 3)), some (.cells ss (some 1))] []
  else False
  else False
  else False
  else False
  else False
  else False
  else False
  else False
  else False) := by kernel_rfl
theorem ma_e (M : Int) (sa sb sc sd se N C : Int) (nw nl ns : Nat) (ws ls ss : List LV) (k a old w wv : Int) (wh : Bool) (wo lv : Int) (lh : Bool) (lo : Int) (ax : List LV) (K : Pk) : (xsp Go.Proofs.Try.prog cxq6 40 210 (seg (sp Go.Proofs.Try.prog 6) 8 1) (mkTm 210 (maU M nw nl ns)) (mkS (maI sa sb sc sd se N C nw nl ns ws ls ss k a old w wv wh wo lv lh lo ax)) (vK maL K)) = (
  bif okIu64 ws nw then
  bif okL ls nl then
  bif okIu64 ss ns then
  bif xle nw 1000000 then
  bif xle ns 1000000 then
  bif okO [.int .i64 k, .int .i64 a, .int .u64 old, .int .u64 w, .int .u64 wv, .bool wh, .int .i64 wo, .int .u64 lv, .bool lh, .int .i64 lo] then
  K .normal [.any, .ptr 9 0, .any, .ptr 1 0, .any, .slo 10 0 nw 0, .slo 11 0 nl 0, .int .u64 M, .slo 12 0 ns 0, .ptr 13 0, .any, .any, .any, .any, .any, .any, .any] [some (.ro ax), some (.cells [.int .i64 sa, .int .i64 sb, .int .i64 sc, .int .i64 sd, .int .u64 se, .ptr 2 0, .ptr 4 0, .ptr 6 0, .ptr 7 0, .int .i64 (dC ws ls ss N C [.int .i64 k, .int .i64 a, .int .u64 old, .int .u64 w, .int .u64 wv, .bool wh, .int .i64 wo, .int .u64 lv, .bool lh, .int .i64 lo])] none), some (.cells [.slo 3 0 nw 0] none), some (.cells (dW ws ls ss N C [.int .i64 k, .int .i64 a, .int .u64 old, .int .u64 w, .int .u64 wv, .bool wh, .int .i64 wo, .int .u64 lv, .bool lh, .int .i64 lo]) (some 1)), some (.cells [.int .i64 sc, .slo 5 0 nl 0] none), some (.cells (dL ws ls ss N C [.int .i64 k, .int .i64 a, .int .u64 old, .int .u64 w, .int .u64 wv, .bool wh, .int .i64 wo, .int .u64 lv, .bool lh, .int .i64 lo]) (some 3)), some (.cells [.int .u64 (dN ws ls ss N C [.int .i64 k, .int .i64 a, .int .u64 old, .int .u64 w, .int .u64 wv, .bool wh, .int .i64 wo, .int .u64 lv, .bool lh, .int .i64 lo])] none), some (.cells [.slo 8 0 ns 0] none), some (.cells (dS ws ls ss N C [.int .i64 k, .int .i64 a, .int .u64 old, .int .u64 w, .int .u64 wv, .bool wh, .int .i64 wo, .int .u64 lv, .bool lh, .int .i64 lo]) (some 1)), some (.cells [.int .i64 k, .int .i64 a, .int .u64 old, .int .u64 w, .int .u64 wv, .bool wh, .int .i64 wo, .int .u64 lv, .bool lh, .int .i64 lo] none), some (.cells ws (some 1)), some (.cells ls (some 3)), some (.cells ss (some 1)), some (.cells [.int .u64 (anW ws ls ss N C [.int .i64 k, .int .i64 a, .int .u64 old, .int .u64 w, .int .u64 wv, .bool wh, .int .i64 wo, .int .u64 lv, .bool lh, .int .i64 lo]), .int .u64 (anV ws ls ss N C [.int .i64 k, .int .i64 a, .int .u64 old, .int .u64 w, .int .u64 wv, .bool wh, .int .i64 wo, .int .u64 lv, .bool lh, .int .i64 lo]), .bool (anH ws ls ss N C [.int .i64 k, .int .i64 a, .int .u64 old, .int .u64 w, .int .u64 wv, .bool wh, .int .i64 wo, .int .u64 lv, .bool lh, .int .i64 lo]), .int .i64 (anO ws ls ss N C [.int .i64 k, .int .i64 a, .int .u64 old, .int .u64 w, .int .u64 wv, .bool wh, .int .i64 wo, .int .u64 lv, .bool lh, .int .i64 lo]), .bool (anD ws ls ss N C [.int .i64 k, .int .i64 a, .int .u64 old, .int .u64 w, .int .u64 wv, .bool wh, .int .i64 wo, .int .u64 lv, .bool lh, .int .i64 lo]), .int .i64 (anE ws ls ss N C [.int .i64 k, .int .i64 a, .int .u64 old, .int .u64 w, .int .u64 wv, .bool wh, .int .i64 wo, .int .u64 lv, .bool lh, .int .i64 lo])] none)] []
  else False
  else False
  else False
  else False
  else False
  else False) := by kernel_rfl
theorem ma_f (M : Int) (sa sb sc sd se N C : Int) (nw nl ns : Nat) (ws ls ss : List LV) (k a old w wv : Int) (wh : Bool) (wo lv : Int) (lh : Bool) (lo : Int) (aw av : Int) (ah : Bool) (ao : Int) (ad : Bool) (ae : Int) (vs ks es ax : List LV) (K : Pk) : (xsp Go.Proofs.Try.prog cxq6 40 210 (seg (sp Go.Proofs.Try.prog 6) 9 4) (mkTm 210 (maV M nw nl ns)) (mkS (maJ sa sb sc sd se N C nw nl ns ws ls ss k a old w wv wh wo lv lh lo aw av ah ao ad ae vs ks es ax)) (vK maL K)) = (
  bif xle nw 1000000 then
  bif xeq (xln ws) (xmul nw 1) then
  bif xnoid ws then
  bif xle nl 1000000 then
  bif xeq (xln ls) (xmul nl 3) then
  bif xnoid ls then
  bif xle ns 1000000 then
  bif xeq (xln ss) (xmul ns 1) then
  bif xnoid ss then
  bif xcm .neq ↑nw ↑nw then (
   K .ret [.any, .ptr 9 0, .bool false, .ptr 1 0, .any, .slo 10 0 nw 0, .slo 11 0 nl 0, .int .u64 M, .slo 12 0 ns 0, .ptr 13 0, .slo 14 0 nw 0, .slo 15 0 nl 0, .int .u64 N, .slo 16 0 ns 0, .any, .any, .any] [some (.ro ax), some (.cells [.int .i64 sa, .int .i64 sb, .int .i64 sc, .int .i64 sd, .int .u64 se, .ptr 2 0, .ptr 4 0, .ptr 6 0, .ptr 7 0, .int .i64 C] none), some (.cells [.slo 3 0 nw 0] none), some (.cells ws (some 1)), some (.cells [.int .i64 sc, .slo 5 0 nl 0] none), some (.cells ls (some 3)), some (.cells [.int .u64 N] none), some (.cells [.slo 8 0 ns 0] none), some (.cells ss (some 1)), some (.cells [.int .i64 k, .int .i64 a, .int .u64 old, .int .u64 w, .int .u64 wv, .bool wh, .int .i64 wo, .int .u64 lv, .bool lh, .int .i64 lo] none), some (.cells vs (some 1)), some (.cells ks (some 3)), some (.cells es (some 1)), some (.cells [.int .u64 aw, .int .u64 av, .bool ah, .int .i64 ao, .bool ad, .int .i64 ae] none), some (.cells ws (some 1)), some (.cells ls (some 3)), some (.cells ss (some 1))] [])
  else (
   bif xcm .neq ↑nl ↑nl then (
    K .ret [.any, .ptr 9 0, .bool false, .ptr 1 0, .any, .slo 10 0 nw 0, .slo 11 0 nl 0, .int .u64 M, .slo 12 0 ns 0, .ptr 13 0, .slo 14 0 nw 0, .slo 15 0 nl 0, .int .u64 N, .slo 16 0 ns 0, .any, .any, .any] [some (.ro ax), some (.cells [.int .i64 sa, .int .i64 sb, .int .i64 sc, .int .i64 sd, .int .u64 se, .ptr 2 0, .ptr 4 0, .ptr 6 0, .ptr 7 0, .int .i64 C] none), some (.cells [.slo 3 0 nw 0] none), some (.cells ws (some 1)), some (.cells [.int .i64 sc, .slo 5 0 nl 0] none), some (.cells ls (some 3)), some (.cells [.int .u64 N] none), some (.cells [.slo 8 0 ns 0] none), some (.cells ss (some 1)), some (.cells [.int .i64 k, .int .i64 a, .int .u64 old, .int .u64 w, .int .u64 wv, .bool wh, .int .i64 wo, .int .u64 lv, .bool lh, .int .i64 lo] none), some (.cells vs (some 1)), some (.cells ks (some 3)), some (.cells es (some 1)), some (.cells [.int .u64 aw, .int .u64 av, .bool ah, .int .i64 ao, .bool ad, .int .i64 ae] none), some (.cells ws (some 1)), some (.cells ls (some 3)), some (.cells ss (some 1))] [])
   else (
    bif xcm .neq ↑ns ↑ns then (
     K .ret [.any, .ptr 9 0, .bool false, .ptr 1 0, .any, .slo 10 0 nw 0, .slo 11 0 nl 0, .int .u64 M, .slo 12 0 ns 0, .ptr 13 0, .slo 14 0 nw 0, .slo 15 0 nl 0, .int .u64 N, .slo 16 0 ns 0, .any, .any, .any] [some (.ro ax), some (.cells [.int .i64 sa, .int .i64 sb, .int .i64 sc, .int .i64 sd, .int .u64 se, .ptr 2 0, .ptr 4 0, .ptr 6 0, .ptr 7 0, .int .i64 C] none), some (.cells [.slo 3 0 nw 0] none), some (.cells ws (some 1)), some (.cells [.int .i64 sc, .slo 5 0 nl 0] none), some (.cells ls (some 3)), some (.cells [.int .u64 N] none), some (.cells [.slo 8 0 ns 0] none), some (.cells ss (some 1)), some (.cells [.int .i64 k, .int .i64 a, .int .u64 old, .int .u64 w, .int .u64 wv, .bool wh, .int .i64 wo, .int .u64 lv, .bool lh, .int .i64 lo] none), some (.cells vs (some 1)), some (.cells ks (some 3)), some (.cells es (some 1)), some (.cells [.int .u64 aw, .int .u64 av, .bool ah, .int .i64 ao, .bool ad, .int .i64 ae] none), some (.cells ws (some 1)), some (.cells ls (some 3)), some (.cells ss (some 1))] [])
    else (
     K .normal [.any, .ptr 9 0, .any, .ptr 1 0, .any, .slo 10 0 nw 0, .slo 11 0 nl 0, .int .u64 M, .slo 12 0 ns 0, .ptr 13 0, .slo 14 0 nw 0, .slo 15 0 nl 0, .int .u64 N, .slo 16 0 ns 0, .int .i64 0, .any, .any] [some (.ro ax), some (.cells [.int .i64 sa, .int .i64 sb, .int .i64 sc, .int .i64 sd, .int .u64 se, .ptr 2 0, .ptr 4 0, .ptr 6 0, .ptr 7 0, .int .i64 C] none), some (.cells [.slo 3 0 nw 0] none), some (.cells ws (some 1)), some (.cells [.int .i64 sc, .slo 5 0 nl 0] none), some (.cells ls (some 3)), some (.cells [.int .u64 N] none), some (.cells [.slo 8 0 ns 0] none), some (.cells ss (some 1)), some (.cells [.int .i64 k, .int .i64 a, .int .u64 old, .int .u64 w, .int .u64 wv, .bool wh, .int .i64 wo, .int .u64 lv, .bool lh, .int .i64 lo] none), some (.cells vs (some 1)), some (.cells ks (some 3)), some (.cells es (some 1)), some (.cells [.int .u64 aw, .int .u64 av, .bool ah, .int .i64 ao, .bool ad, .int .i64 ae] none), some (.cells ws (some 1)), some (.cells ls (some 3)), some (.cells ss (some 1))] [])))
  else False
  else False
  else False
  else False
  else False
  else False
  else False
  else False
  else False) := by kernel_rfl
theorem ma_g (N N' : Int) (nw nl ns i : Nat) (k a old w wv : Int) (wh : Bool) (wo lv : Int) (lh : Bool) (lo : Int) (aw av : Int) (ah : Bool) (ao : Int) (ad : Bool) (ae : Int) (ws ls ss vs ks es ax : List LV) (K : Pk) : (xcode Go.Proofs.Try.prog cxq6 40 210 (loopOf (nthC (sp Go.Proofs.Try.prog 6) 13)) (mkTm 210 (maW1 N N' nw nl ns i)) (mkS (maX k a old w wv wh wo lv lh lo aw av ah ao ad ae ws ls ss vs ks es ax)) (vK maL K)) = (
  bif xcm .lss ↑i ↑nw then (
   bif xle (xadd (xnat ↑i) 1) nw then
   bif xle (xadd (xix 0 (xnat ↑i) 1) 1) (xln ws) then
   bif isI .u64 (nthD ws (xix 0 (xnat ↑i) 1)) then
   bif xle (xadd (xnat ↑i) 1) nw then
   bif xle (xadd (xix 0 (xnat ↑i) 1) 1) (xln vs) then
   bif isI .u64 (nthD vs (xix 0 (xnat ↑i) 1)) then
   bif xcm .neq (asI (nthD ws (xix 0 (xnat ↑i) 1))) (asI (nthD vs (xix 0 (xnat ↑i) 1))) then (
    bif xcm .neq k 2 then (
     K .ret [.any, .ptr 1 0, .bool false, .any, .any, .slo 2 0 nw 0, .slo 3 0 nl 0, .int .u64 N, .slo 4 0 ns 0, .ptr 5 0, .slo 6 0 nw 0, .slo 7 0 nl 0, .int .u64 N', .slo 8 0 ns 0, .int .i64 ↑i, .any, .any] [some (.ro ax), some (.cells [.int .i64 k, .int .i64 a, .int .u64 old, .int .u64 w, .int .u64 wv, .bool wh, .int .i64 wo, .int .u64 lv, .bool lh, .int .i64 lo] none), some (.cells ws (some 1)), some (.cells ls (some 3)), some (.cells ss (some 1)), some (.cells [.int .u64 aw, .int .u64 av, .bool ah, .int .i64 ao, .bool ad, .int .i64 ae] none), some (.cells vs (some 1)), some (.cells ks (some 3)), some (.cells es (some 1))] [])
    else (
     bif xcm .neq (↑i) a then (
      K .ret [.any, .ptr 1 0, .bool false, .any, .any, .slo 2 0 nw 0, .slo 3 0 nl 0, .int .u64 N, .slo 4 0 ns 0, .ptr 5 0, .slo 6 0 nw 0, .slo 7 0 nl 0, .int .u64 N', .slo 8 0 ns 0, .int .i64 ↑i, .any, .any] [some (.ro ax), some (.cells [.int .i64 k, .int .i64 a, .int .u64 old, .int .u64 w, .int .u64 wv, .bool wh, .int .i64 wo, .int .u64 lv, .bool lh, .int .i64 lo] none), some (.cells ws (some 1)), some (.cells ls (some 3)), some (.cells ss (some 1)), some (.cells [.int .u64 aw, .int .u64 av, .bool ah, .int .i64 ao, .bool ad, .int .i64 ae] none), some (.cells vs (some 1)), some (.cells ks (some 3)), some (.cells es (some 1))] [])
     else (
      bif xle (xadd (xnat ↑i) 1) nw then
      bif xle (xadd (xix 0 (xnat ↑i) 1) 1) (xln vs) then
      bif isI .u64 (nthD vs (xix 0 (xnat ↑i) 1)) then
      bif xcm .neq (asI (nthD vs (xix 0 (xnat ↑i) 1))) w then (
       K .ret [.any, .ptr 1 0, .bool false, .any, .any, .slo 2 0 nw 0, .slo 3 0 nl 0, .int .u64 N, .slo 4 0 ns 0, .ptr 5 0, .slo 6 0 nw 0, .slo 7 0 nl 0, .int .u64 N', .slo 8 0 ns 0, .int .i64 ↑i, .any, .any] [some (.ro ax), some (.cells [.int .i64 k, .int .i64 a, .int .u64 old, .int .u64 w, .int .u64 wv, .bool wh, .int .i64 wo, .int .u64 lv, .bool lh, .int .i64 lo] none), some (.cells ws (some 1)), some (.cells ls (some 3)), some (.cells ss (some 1)), some (.cells [.int .u64 aw, .int .u64 av, .bool ah, .int .i64 ao, .bool ad, .int .i64 ae] none), some (.cells vs (some 1)), some (.cells ks (some 3)), some (.cells es (some 1))] [])
      else (
       K .normal [.any, .ptr 1 0, .any, .any, .any, .slo 2 0 nw 0, .slo 3 0 nl 0, .int .u64 N, .slo 4 0 ns 0, .ptr 5 0, .slo 6 0 nw 0, .slo 7 0 nl 0, .int .u64 N', .slo 8 0 ns 0, .int .i64 (xar .add .i64 (↑i) 1), .any, .any] [some (.ro ax), some (.cells [.int .i64 k, .int .i64 a, .int .u64 old, .int .u64 w, .int .u64 wv, .bool wh, .int .i64 wo, .int .u64 lv, .bool lh, .int .i64 lo] none), some (.cells ws (some 1)), some (.cells ls (some 3)), some (.cells ss (some 1)), some (.cells [.int .u64 aw, .int .u64 av, .bool ah, .int .i64 ao, .bool ad, .int .i64 ae] none), some (.cells vs (some 1)), some (.cells ks (some 3)), some (.cells es (some 1))] [])
      else False
      else False
      else False)))
   else (
    K .normal [.any, .ptr 1 0, .any, .any, .any, .slo 2 0 nw 0, .slo 3 0 nl 0, .int .u64 N, .slo 4 0 ns 0, .ptr 5 0, .slo 6 0 nw 0, .slo 7 0 nl 0, .int .u64 N', .slo 8 0 ns 0, .int .i64 (xar .add .i64 (↑i) 1), .any, .any] [some (.ro ax), some (.cells [.int .i64 k, .int .i64 a, .int .u64 old, .int .u64 w, .int .u64 wv, .bool wh, .int .i64 wo, .int .u64 lv, .bool lh, .int .i64 lo] none), some (.cells ws (some 1)), some (.cells ls (some 3)), some (.cells ss (some 1)), some (.cells [.int .u64 aw, .int .u64 av, .bool ah, .int .i64 ao, .bool ad, .int .i64 ae] none), some (.cells vs (some 1)), some (.cells ks (some 3)), some (.cells es (some 1))] [])
   else False
   else False
   else False
   else False
   else False
   else False)
  else (
   K (.exit 0) [.any, .ptr 1 0, .any, .any, .any, .slo 2 0 nw 0, .slo 3 0 nl 0, .int .u64 N, .slo 4 0 ns 0, .ptr 5 0, .slo 6 0 nw 0, .slo 7 0 nl 0, .int .u64 N', .slo 8 0 ns 0, .int .i64 ↑i, .any, .any] [some (.ro ax), some (.cells [.int .i64 k, .int .i64 a, .int .u64 old, .int .u64 w, .int .u64 wv, .bool wh, .int .i64 wo, .int .u64 lv, .bool lh, .int .i64 lo] none), some (.cells ws (some 1)), some (.cells ls (some 3)), some (.cells ss (some 1)), some (.cells [.int .u64 aw, .int .u64 av, .bool ah, .int .i64 ao, .bool ad, .int .i64 ae] none), some (.cells vs (some 1)), some (.cells ks (some 3)), some (.cells es (some 1))] [])) := by kernel_rfl
theorem ma_h (N N' : Int) (nw nl ns i : Nat) (k a old w wv : Int) (wh : Bool) (wo lv : Int) (lh : Bool) (lo : Int) (aw av : Int) (ah : Bool) (ao : Int) (ad : Bool) (ae : Int) (ws ls ss vs ks es ax : List LV) (K : Pk) : (xsp Go.Proofs.Try.prog cxq6 40 210 (seg (sp Go.Proofs.Try.prog 6) 14 1) (mkTm 210 (maW1 N N' nw nl ns i)) (mkS (maX k a old w wv wh wo lv lh lo aw av ah ao ad ae ws ls ss vs ks es ax)) (vK maL K)) = (
  K .normal [.any, .ptr 1 0, .any, .any, .any, .slo 2 0 nw 0, .slo 3 0 nl 0, .int .u64 N, .slo 4 0 ns 0, .ptr 5 0, .slo 6 0 nw 0, .slo 7 0 nl 0, .int .u64 N', .slo 8 0 ns 0, .int .i64 ↑i, .int .i64 0, .any] [some (.ro ax), some (.cells [.int .i64 k, .int .i64 a, .int .u64 old, .int .u64 w, .int .u64 wv, .bool wh, .int .i64 wo, .int .u64 lv, .bool lh, .int .i64 lo] none), some (.cells ws (some 1)), some (.cells ls (some 3)), some (.cells ss (some 1)), some (.cells [.int .u64 aw, .int .u64 av, .bool ah, .int .i64 ao, .bool ad, .int .i64 ae] none), some (.cells vs (some 1)), some (.cells ks (some 3)), some (.cells es (some 1))] []) := by kernel_rfl
theorem ma_i (N N' : Int) (nw nl ns i : Nat) (k a old w wv : Int) (wh : Bool) (wo lv : Int) (lh : Bool) (lo : Int) (aw av : Int) (ah : Bool) (ao : Int) (ad : Bool) (ae : Int) (ws ls ss vs ks es ax : List LV) (K : Pk) : (xcode Go.Proofs.Try.prog cxq6 40 210 (loopOf (nthC (sp Go.Proofs.Try.prog 6) 15)) (mkTm 210 (maW2 N N' nw nl ns i)) (mkS (maX k a old w wv wh wo lv lh lo aw av ah ao ad ae ws ls ss vs ks es ax)) (vK maL K)) = (
  bif xcm .lss ↑i ↑nl then (
   bif xle (xadd (xnat ↑i) 1) nl then
   bif xle (xadd (xix 0 (xnat ↑i) 3) 3) (xln ls) then
   bif isI .u64 (nthD ls (xix 0 (xnat ↑i) 3)) then
   bif isB (nthD ls (xadd (xix 0 (xnat ↑i) 3) 1)) then
   bif isI .i64 (nthD ls (xadd (xadd (xix 0 (xnat ↑i) 3) 1) 1)) then
   bif xle (xadd (xnat ↑i) 1) nl then
   bif xle (xadd (xix 0 (xnat ↑i) 3) 3) (xln ks) then
   bif isI .u64 (nthD ks (xix 0 (xnat ↑i) 3)) then
   bif isB (nthD ks (xadd (xix 0 (xnat ↑i) 3) 1)) then
   bif isI .i64 (nthD ks (xadd (xadd (xix 0 (xnat ↑i) 3) 1) 1)) then
   bif xnot (xand (xcm .eql (asI (nthD ls (xix 0 (xnat ↑i) 3))) (asI (nthD ks (xix 0 (xnat ↑i) 3)))) (xand (xbq (asB (nthD ls (xadd (xix 0 (xnat ↑i) 3) 1))) (asB (nthD ks (xadd (xix 0 (xnat ↑i) 3) 1)))) (xand (xcm .eql (asI (nthD ls (xadd (xadd (xix 0 (xnat ↑i) 3) 1) 1))) (asI (nthD ks (xadd (xadd (xix 0 (xnat ↑i) 3) 1) 1)))) true))) then (
    bif xcm .neq k 5 then (
     bif xcm .eql k 4 then (
      bif xnot ad then (
       K .ret [.any, .ptr 1 0, .bool false, .any, .any, .slo 2 0 nw 0, .slo 3 0 nl 0, .int .u64 N, .slo 4 0 ns 0, .ptr 5 0, .slo 6 0 nw 0, .slo 7 0 nl 0, .int .u64 N', .slo 8 0 ns 0, .any, .int .i64 ↑i, .any] [some (.ro ax), some (.cells [.int .i64 k, .int .i64 a, .int .u64 old, .int .u64 w, .int .u64 wv, .bool wh, .int .i64 wo, .int .u64 lv, .bool lh, .int .i64 lo] none), some (.cells ws (some 1)), some (.cells ls (some 3)), some (.cells ss (some 1)), some (.cells [.int .u64 aw, .int .u64 av, .bool ah, .int .i64 ao, .bool ad, .int .i64 ae] none), some (.cells vs (some 1)), some (.cells ks (some 3)), some (.cells es (some 1))] [])
      else (
       bif xcm .neq (↑i) a then (
        K .ret [.any, .ptr 1 0, .bool false, .any, .any, .slo 2 0 nw 0, .slo 3 0 nl 0, .int .u64 N, .slo 4 0 ns 0, .ptr 5 0, .slo 6 0 nw 0, .slo 7 0 nl 0, .int .u64 N', .slo 8 0 ns 0, .any, .int .i64 ↑i, .any] [some (.ro ax), some (.cells [.int .i64 k, .int .i64 a, .int .u64 old, .int .u64 w, .int .u64 wv, .bool wh, .int .i64 wo, .int .u64 lv, .bool lh, .int .i64 lo] none), some (.cells ws (some 1)), some (.cells ls (some 3)), some (.cells ss (some 1)), some (.cells [.int .u64 aw, .int .u64 av, .bool ah, .int .i64 ao, .bool ad, .int .i64 ae] none), some (.cells vs (some 1)), some (.cells ks (some 3)), some (.cells es (some 1))] [])
       else (
        bif xle (xadd (xnat ↑i) 1) nl then
        bif xle (xadd (xix 0 (xnat ↑i) 3) 3) (xln ks) then
        bif isI .u64 (nthD ks (xix 0 (xnat ↑i) 3)) then
        bif isB (nthD ks (xadd (xix 0 (xnat ↑i) 3) 1)) then
        bif isI .i64 (nthD ks (xadd (xadd (xix 0 (xnat ↑i) 3) 1) 1)) then
        bif xnot (xand (xcm .eql (asI (nthD ks (xix 0 (xnat ↑i) 3))) lv) (xand (xbq (asB (nthD ks (xadd (xix 0 (xnat ↑i) 3) 1))) lh) (xand (xcm .eql (asI (nthD ks (xadd (xadd (xix 0 (xnat ↑i) 3) 1) 1))) lo) true))) then (
         K .ret [.any, .ptr 1 0, .bool false, .any, .any, .slo 2 0 nw 0, .slo 3 0 nl 0, .int .u64 N, .slo 4 0 ns 0, .ptr 5 0, .slo 6 0 nw 0, .slo 7 0 nl 0, .int .u64 N', .slo 8 0 ns 0, .any, .int .i64 ↑i, .any] [some (.ro ax), some (.cells [.int .i64 k, .int .i64 a, .int .u64 old, .int .u64 w, .int .u64 wv, .bool wh, .int .i64 wo, .int .u64 lv, .bool lh, .int .i64 lo] none), some (.cells ws (some 1)), some (.cells ls (some 3)), some (.cells ss (some 1)), some (.cells [.int .u64 aw, .int .u64 av, .bool ah, .int .i64 ao, .bool ad, .int .i64 ae] none), some (.cells vs (some 1)), some (.cells ks (some 3)), some (.cells es (some 1))] [])
        else (
         K .normal [.any, .ptr 1 0, .any, .any, .any, .slo 2 0 nw 0, .slo 3 0 nl 0, .int .u64 N, .slo 4 0 ns 0, .ptr 5 0, .slo 6 0 nw 0, .slo 7 0 nl 0, .int .u64 N', .slo 8 0 ns 0, .any, .int .i64 (xar .add .i64 (↑i) 1), .any] [some (.ro ax), some (.cells [.int .i64 k, .int .i64 a, .int .u64 old, .int .u64 w, .int .u64 wv, .bool wh, .int .i64 wo, .int .u64 lv, .bool lh, .int .i64 lo] none), some (.cells ws (some 1)), some (.cells ls (some 3)), some (.cells ss (some 1)), some (.cells [.int .u64 aw, .int .u64 av, .bool ah, .int .i64 ao, .bool ad, .int .i64 ae] none), some (.cells vs (some 1)), some (.cells ks (some 3)), some (.cells es (some 1))] [])
        else False
        else False
        else False
        else False
        else False)))
     else (
      K .ret [.any, .ptr 1 0, .bool false, .any, .any, .slo 2 0 nw 0, .slo 3 0 nl 0, .int .u64 N, .slo 4 0 ns 0, .ptr 5 0, .slo 6 0 nw 0, .slo 7 0 nl 0, .int .u64 N', .slo 8 0 ns 0, .any, .int .i64 ↑i, .any] [some (.ro ax), some (.cells [.int .i64 k, .int .i64 a, .int .u64 old, .int .u64 w, .int .u64 wv, .bool wh, .int .i64 wo, .int .u64 lv, .bool lh, .int .i64 lo] none), some (.cells ws (some 1)), some (.cells ls (some 3)), some (.cells ss (some 1)), some (.cells [.int .u64 aw, .int .u64 av, .bool ah, .int .i64 ao, .bool ad, .int .i64 ae] none), some (.cells vs (some 1)), some (.cells ks (some 3)), some (.cells es (some 1))] []))
    else (
     bif xcm .neq (↑i) a then (
      K .ret [.any, .ptr 1 0, .bool false, .any, .any, .slo 2 0 nw 0, .slo 3 0 nl 0, .int .u64 N, .slo 4 0 ns 0, .ptr 5 0, .slo 6 0 nw 0, .slo 7 0 nl 0, .int .u64 N', .slo 8 0 ns 0, .any, .int .i64 ↑i, .any] [some (.ro ax), some (.cells [.int .i64 k, .int .i64 a, .int .u64 old, .int .u64 w, .int .u64 wv, .bool wh, .int .i64 wo, .int .u64 lv, .bool lh, .int .i64 lo] none), some (.cells ws (some 1)), some (.cells ls (some 3)), some (.cells ss (some 1)), some (.cells [.int .u64 aw, .int .u64 av, .bool ah, .int .i64 ao, .bool ad, .int .i64 ae] none), some (.cells vs (some 1)), some (.cells ks (some 3)), some (.cells es (some 1))] [])
     else (
      bif xle (xadd (xnat ↑i) 1) nl then
      bif xle (xadd (xix 0 (xnat ↑i) 3) 3) (xln ks) then
      bif isI .u64 (nthD ks (xix 0 (xnat ↑i) 3)) then
      bif isB (nthD ks (xadd (xix 0 (xnat ↑i) 3) 1)) then
      bif isI .i64 (nthD ks (xadd (xadd (xix 0 (xnat ↑i) 3) 1) 1)) then
      bif xnot (xand (xcm .eql (asI (nthD ks (xix 0 (xnat ↑i) 3))) lv) (xand (xbq (asB (nthD ks (xadd (xix 0 (xnat ↑i) 3) 1))) lh) (xand (xcm .eql (asI (nthD ks (xadd (xadd (xix 0 (xnat ↑i) 3) 1) 1))) lo) true))) then (
       K .ret [.any, .ptr 1 0, .bool false, .any, .any, .slo 2 0 nw 0, .slo 3 0 nl 0, .int .u64 N, .slo 4 0 ns 0, .ptr 5 0, .slo 6 0 nw 0, .slo 7 0 nl 0, .int .u64 N', .slo 8 0 ns 0, .any, .int .i64 ↑i, .any] [some (.ro ax), some (.cells [.int .i64 k, .int .i64 a, .int .u64 old, .int .u64 w, .int .u64 wv, .bool wh, .int .i64 wo, .int .u64 lv, .bool lh, .int .i64 lo] none), some (.cells ws (some 1)), some (.cells ls (some 3)), some (.cells ss (some 1)), some (.cells [.int .u64 aw, .int .u64 av, .bool ah, .int .i64 ao, .bool ad, .int .i64 ae] none), some (.cells vs (some 1)), some (.cells ks (some 3)), some (.cells es (some 1))] [])
      else (
       K .normal [.any, .ptr 1 0, .any, .any, .any, .slo 2 0 nw 0, .slo 3 0 nl 0, .int .u64 N, .slo 4 0 ns 0, .ptr 5 0, .slo 6 0 nw 0, .slo 7 0 nl 0, .int .u64 N', .slo 8 0 ns 0, .any, .int .i64 (xar .add .i64 (↑i) 1), .any] [some (.ro ax), some (.cells [.int .i64 k, .int .i64 a, .int .u64 old, .int .u64 w, .int .u64 wv, .bool wh, .int .i64 wo, .int .u64 lv, .bool lh, .int .i64 lo] none), some (.cells ws (some 1)), some (.cells ls (some 3)), some (.cells ss (some 1)), some (.cells [.int .u64 aw, .int .u64 av, .bool ah, .int .i64 ao, .bool ad, .int .i64 ae] none), some (.cells vs (some 1)), some (.cells ks (some 3)), some (.cells es (some 1))] [])
      else False
      else False
      else False
      else False
      else False)))
   else (
    K .normal [.any, .ptr 1 0, .any, .any, .any, .slo 2 0 nw 0, .slo 3 0 nl 0, .int .u64 N, .slo 4 0 ns 0, .ptr 5 0, .slo 6 0 nw 0, .slo 7 0 nl 0, .int .u64 N', .slo 8 0 ns 0, .any, .int .i64 (xar .add .i64 (↑i) 1), .any] [some (.ro ax), some (.cells [.int .i64 k, .int .i64 a, .int .u64 old, .int .u64 w, .int .u64 wv, .bool wh, .int .i64 wo, .int .u64 lv, .bool lh, .int .i64 lo] none), some (.cells ws (some 1)), some (.cells ls (some 3)), some (.cells ss (some 1)), some (.cells [.int .u64 aw, .int .u64 av, .bool ah, .int .i64 ao, .bool ad, .int .i64 ae] none), some (.cells vs (some 1)), some (.cells ks (some 3)), some (.cells es (some 1))] [])
   else False
   else False
   else False
   else False
   else False
   else False
   else False
   else False
   else False
   else False)
  else (
   K (.exit 2) [.any, .ptr 1 0, .any, .any, .any, .slo 2 0 nw 0, .slo 3 0 nl 0, .int .u64 N, .slo 4 0 ns 0, .ptr 5 0, .slo 6 0 nw 0, .slo 7 0 nl 0, .int .u64 N', .slo 8 0 ns 0, .any, .int .i64 ↑i, .any] [some (.ro ax), some (.cells [.int .i64 k, .int .i64 a, .int .u64 old, .int .u64 w, .int .u64 wv, .bool wh, .int .i64 wo, .int .u64 lv, .bool lh, .int .i64 lo] none), some (.cells ws (some 1)), some (.cells ls (some 3)), some (.cells ss (some 1)), some (.cells [.int .u64 aw, .int .u64 av, .bool ah, .int .i64 ao, .bool ad, .int .i64 ae] none), some (.cells vs (some 1)), some (.cells ks (some 3)), some (.cells es (some 1))] [])) := by kernel_rfl
theorem ma_j (N N' : Int) (nw nl ns i : Nat) (k a old w wv : Int) (wh : Bool) (wo lv : Int) (lh : Bool) (lo : Int) (aw av : Int) (ah : Bool) (ao : Int) (ad : Bool) (ae : Int) (ws ls ss vs ks es ax : List LV) (K : Pk) : (xsp Go.Proofs.Try.prog cxq6 40 210 (seg (sp Go.Proofs.Try.prog 6) 16 1) (mkTm 210 (maW2 N N' nw nl ns i)) (mkS (maX k a old w wv wh wo lv lh lo aw av ah ao ad ae ws ls ss vs ks es ax)) (vK maL K)) = (
  K .normal [.any, .ptr 1 0, .any, .any, .any, .slo 2 0 nw 0, .slo 3 0 nl 0, .int .u64 N, .slo 4 0 ns 0, .ptr 5 0, .slo 6 0 nw 0, .slo 7 0 nl 0, .int .u64 N', .slo 8 0 ns 0, .any, .int .i64 ↑i, .int .i64 0] [some (.ro ax), some (.cells [.int .i64 k, .int .i64 a, .int .u64 old, .int .u64 w, .int .u64 wv, .bool wh, .int .i64 wo, .int .u64 lv, .bool lh, .int .i64 lo] none), some (.cells ws (some 1)), some (.cells ls (some 3)), some (.cells ss (some 1)), some (.cells [.int .u64 aw, .int .u64 av, .bool ah, .int .i64 ao, .bool ad, .int .i64 ae] none), some (.cells vs (some 1)), some (.cells ks (some 3)), some (.cells es (some 1))] []) := by kernel_rfl
theorem ma_k (N N' : Int) (nw nl ns i : Nat) (k a old w wv : Int) (wh : Bool) (wo lv : Int) (lh : Bool) (lo : Int) (aw av : Int) (ah : Bool) (ao : Int) (ad : Bool) (ae : Int) (ws ls ss vs ks es ax : List LV) (K : Pk) : (xcode Go.Proofs.Try.prog cxq6 40 210 (loopOf (nthC (sp Go.Proofs.Try.prog 6) 17)) (mkTm 210 (maW3 N N' nw nl ns i)) (mkS (maX k a old w wv wh wo lv lh lo aw av ah ao ad ae ws ls ss vs ks es ax)) (vK maL K)) = (
  bif xcm .lss ↑i ↑ns then (
   bif xle (xadd (xnat ↑i) 1) ns then
   bif xle (xadd (xix 0 (xnat ↑i) 1) 1) (xln ss) then
   bif isI .u64 (nthD ss (xix 0 (xnat ↑i) 1)) then
   bif xle (xadd (xnat ↑i) 1) ns then
   bif xle (xadd (xix 0 (xnat ↑i) 1) 1) (xln es) then
   bif isI .u64 (nthD es (xix 0 (xnat ↑i) 1)) then
   bif xcm .neq (asI (nthD ss (xix 0 (xnat ↑i) 1))) (asI (nthD es (xix 0 (xnat ↑i) 1))) then (
    bif xcm .neq k 9 then (
     K .ret [.any, .ptr 1 0, .bool false, .any, .any, .slo 2 0 nw 0, .slo 3 0 nl 0, .int .u64 N, .slo 4 0 ns 0, .ptr 5 0, .slo 6 0 nw 0, .slo 7 0 nl 0, .int .u64 N', .slo 8 0 ns 0, .any, .any, .int .i64 ↑i] [some (.ro ax), some (.cells [.int .i64 k, .int .i64 a, .int .u64 old, .int .u64 w, .int .u64 wv, .bool wh, .int .i64 wo, .int .u64 lv, .bool lh, .int .i64 lo] none), some (.cells ws (some 1)), some (.cells ls (some 3)), some (.cells ss (some 1)), some (.cells [.int .u64 aw, .int .u64 av, .bool ah, .int .i64 ao, .bool ad, .int .i64 ae] none), some (.cells vs (some 1)), some (.cells ks (some 3)), some (.cells es (some 1))] [])
    else (
     bif xcm .neq (↑i) a then (
      K .ret [.any, .ptr 1 0, .bool false, .any, .any, .slo 2 0 nw 0, .slo 3 0 nl 0, .int .u64 N, .slo 4 0 ns 0, .ptr 5 0, .slo 6 0 nw 0, .slo 7 0 nl 0, .int .u64 N', .slo 8 0 ns 0, .any, .any, .int .i64 ↑i] [some (.ro ax), some (.cells [.int .i64 k, .int .i64 a, .int .u64 old, .int .u64 w, .int .u64 wv, .bool wh, .int .i64 wo, .int .u64 lv, .bool lh, .int .i64 lo] none), some (.cells ws (some 1)), some (.cells ls (some 3)), some (.cells ss (some 1)), some (.cells [.int .u64 aw, .int .u64 av, .bool ah, .int .i64 ao, .bool ad, .int .i64 ae] none), some (.cells vs (some 1)), some (.cells ks (some 3)), some (.cells es (some 1))] [])
     else (
      bif xle (xadd (xnat ↑i) 1) ns then
      bif xle (xadd (xix 0 (xnat ↑i) 1) 1) (xln es) then
      bif isI .u64 (nthD es (xix 0 (xnat ↑i) 1)) then
      bif xcm .neq (asI (nthD es (xix 0 (xnat ↑i) 1))) w then (
       K .ret [.any, .ptr 1 0, .bool false, .any, .any, .slo 2 0 nw 0, .slo 3 0 nl 0, .int .u64 N, .slo 4 0 ns 0, .ptr 5 0, .slo 6 0 nw 0, .slo 7 0 nl 0, .int .u64 N', .slo 8 0 ns 0, .any, .any, .int .i64 ↑i] [some (.ro ax), some (.cells [.int .i64 k, .int .i64 a, .int .u64 old, .int .u64 w, .int .u64 wv, .bool wh, .int .i64 wo, .int .u64 lv, .bool lh, .int .i64 lo] none), some (.cells ws (some 1)), some (.cells ls (some 3)), some (.cells ss (some 1)), some (.cells [.int .u64 aw, .int .u64 av, .bool ah, .int .i64 ao, .bool ad, .int .i64 ae] none), some (.cells vs (some 1)), some (.cells ks (some 3)), some (.cells es (some 1))] [])
      else (
       K .normal [.any, .ptr 1 0, .any, .any, .any, .slo 2 0 nw 0, .slo 3 0 nl 0, .int .u64 N, .slo 4 0 ns 0, .ptr 5 0, .slo 6 0 nw 0, .slo 7 0 nl 0, .int .u64 N', .slo 8 0 ns 0, .any, .any, .int .i64 (xar .add .i64 (↑i) 1)] [some (.ro ax), some (.cells [.int .i64 k, .int .i64 a, .int .u64 old, .int .u64 w, .int .u64 wv, .bool wh, .int .i64 wo, .int .u64 lv, .bool lh, .int .i64 lo] none), some (.cells ws (some 1)), some (.cells ls (some 3)), some (.cells ss (some 1)), some (.cells [.int .u64 aw, .int .u64 av, .bool ah, .int .i64 ao, .bool ad, .int .i64 ae] none), some (.cells vs (some 1)), some (.cells ks (some 3)), some (.cells es (some 1))] [])
      else False
      else False
      else False)))
   else (
    K .normal [.any, .ptr 1 0, .any, .any, .any, .slo 2 0 nw 0, .slo 3 0 nl 0, .int .u64 N, .slo 4 0 ns 0, .ptr 5 0, .slo 6 0 nw 0, .slo 7 0 nl 0, .int .u64 N', .slo 8 0 ns 0, .any, .any, .int .i64 (xar .add .i64 (↑i) 1)] [some (.ro ax), some (.cells [.int .i64 k, .int .i64 a, .int .u64 old, .int .u64 w, .int .u64 wv, .bool wh, .int .i64 wo, .int .u64 lv, .bool lh, .int .i64 lo] none), some (.cells ws (some 1)), some (.cells ls (some 3)), some (.cells ss (some 1)), some (.cells [.int .u64 aw, .int .u64 av, .bool ah, .int .i64 ao, .bool ad, .int .i64 ae] none), some (.cells vs (some 1)), some (.cells ks (some 3)), some (.cells es (some 1))] [])
   else False
   else False
   else False
   else False
   else False
   else False)
  else (
   K (.exit 4) [.any, .ptr 1 0, .any, .any, .any, .slo 2 0 nw 0, .slo 3 0 nl 0, .int .u64 N, .slo 4 0 ns 0, .ptr 5 0, .slo 6 0 nw 0, .slo 7 0 nl 0, .int .u64 N', .slo 8 0 ns 0, .any, .any, .int .i64 ↑i] [some (.ro ax), some (.cells [.int .i64 k, .int .i64 a, .int .u64 old, .int .u64 w, .int .u64 wv, .bool wh, .int .i64 wo, .int .u64 lv, .bool lh, .int .i64 lo] none), some (.cells ws (some 1)), some (.cells ls (some 3)), some (.cells ss (some 1)), some (.cells [.int .u64 aw, .int .u64 av, .bool ah, .int .i64 ao, .bool ad, .int .i64 ae] none), some (.cells vs (some 1)), some (.cells ks (some 3)), some (.cells es (some 1))] [])) := by kernel_rfl
theorem ma_z (N N' : Int) (nw nl ns i : Nat) (k a old w wv : Int) (wh : Bool) (wo lv : Int) (lh : Bool) (lo : Int) (aw av : Int) (ah : Bool) (ao : Int) (ad : Bool) (ae : Int) (ws ls ss vs ks es ax : List LV) (K : Pk) : (xsp Go.Proofs.Try.prog cxq6 40 210 ((sp Go.Proofs.Try.prog 6).drop 18) (mkTm 210 (maW3 N N' nw nl ns i)) (mkS (maX k a old w wv wh wo lv lh lo aw av ah ao ad ae ws ls ss vs ks es ax)) (vK maL K)) = (
  bif xcm .eql N N' then (
   K .ret [.any, .ptr 1 0, .bool true, .any, .any, .slo 2 0 nw 0, .slo 3 0 nl 0, .int .u64 N, .slo 4 0 ns 0, .ptr 5 0, .slo 6 0 nw 0, .slo 7 0 nl 0, .int .u64 N', .slo 8 0 ns 0, .any, .any, .int .i64 ↑i] [some (.ro ax), some (.cells [.int .i64 k, .int .i64 a, .int .u64 old, .int .u64 w, .int .u64 wv, .bool wh, .int .i64 wo, .int .u64 lv, .bool lh, .int .i64 lo] none), some (.cells ws (some 1)), some (.cells ls (some 3)), some (.cells ss (some 1)), some (.cells [.int .u64 aw, .int .u64 av, .bool ah, .int .i64 ao, .bool ad, .int .i64 ae] none), some (.cells vs (some 1)), some (.cells ks (some 3)), some (.cells es (some 1))] [])
  else (
   bif xcm .eql k 7 then (
    bif ad then (
     K .ret [.any, .ptr 1 0, .bool (xcm .eql N' w), .any, .any, .slo 2 0 nw 0, .slo 3 0 nl 0, .int .u64 N, .slo 4 0 ns 0, .ptr 5 0, .slo 6 0 nw 0, .slo 7 0 nl 0, .int .u64 N', .slo 8 0 ns 0, .any, .any, .int .i64 ↑i] [some (.ro ax), some (.cells [.int .i64 k, .int .i64 a, .int .u64 old, .int .u64 w, .int .u64 wv, .bool wh, .int .i64 wo, .int .u64 lv, .bool lh, .int .i64 lo] none), some (.cells ws (some 1)), some (.cells ls (some 3)), some (.cells ss (some 1)), some (.cells [.int .u64 aw, .int .u64 av, .bool ah, .int .i64 ao, .bool ad, .int .i64 ae] none), some (.cells vs (some 1)), some (.cells ks (some 3)), some (.cells es (some 1))] [])
    else (
     K .ret [.any, .ptr 1 0, .bool false, .any, .any, .slo 2 0 nw 0, .slo 3 0 nl 0, .int .u64 N, .slo 4 0 ns 0, .ptr 5 0, .slo 6 0 nw 0, .slo 7 0 nl 0, .int .u64 N', .slo 8 0 ns 0, .any, .any, .int .i64 ↑i] [some (.ro ax), some (.cells [.int .i64 k, .int .i64 a, .int .u64 old, .int .u64 w, .int .u64 wv, .bool wh, .int .i64 wo, .int .u64 lv, .bool lh, .int .i64 lo] none), some (.cells ws (some 1)), some (.cells ls (some 3)), some (.cells ss (some 1)), some (.cells [.int .u64 aw, .int .u64 av, .bool ah, .int .i64 ao, .bool ad, .int .i64 ae] none), some (.cells vs (some 1)), some (.cells ks (some 3)), some (.cells es (some 1))] []))
   else (
    K .ret [.any, .ptr 1 0, .bool false, .any, .any, .slo 2 0 nw 0, .slo 3 0 nl 0, .int .u64 N, .slo 4 0 ns 0, .ptr 5 0, .slo 6 0 nw 0, .slo 7 0 nl 0, .int .u64 N', .slo 8 0 ns 0, .any, .any, .int .i64 ↑i] [some (.ro ax), some (.cells [.int .i64 k, .int .i64 a, .int .u64 old, .int .u64 w, .int .u64 wv, .bool wh, .int .i64 wo, .int .u64 lv, .bool lh, .int .i64 lo] none), some (.cells ws (some 1)), some (.cells ls (some 3)), some (.cells ss (some 1)), some (.cells [.int .u64 aw, .int .u64 av, .bool ah, .int .i64 ao, .bool ad, .int .i64 ae] none), some (.cells vs (some 1)), some (.cells ks (some 3)), some (.cells es (some 1))] []))) := by kernel_rfl
end
end Go.Lev
