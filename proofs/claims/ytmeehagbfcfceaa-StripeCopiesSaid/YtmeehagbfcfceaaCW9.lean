/- chapter 3: the loop of the law: trees -/
import Derived.Test.YtmeehagbfcfceaaCW11
import Derived.Test.YtmeehagbfcfceaaLc
import Derived.Test.YtmeehagbfcfceaaChecked
import Derived.KernelRfl

namespace Go.Lev
open Go.RowKit
set_option linter.unusedVariables false
set_option linter.unusedSimpArgs false
set_option maxRecDepth 100000
noncomputable section
def cxd : Cx := cxl [(11, tldG), (29, tstG), (10, tcsG), (27, lofG), (21, sameG), (28, rdoG)]
abbrev doL : List Nat := [0, 1, 2, 6, 7, 8, 9, 10, 45]
abbrev doT (n i : Nat) : List (Nat × LV) := [(0, .ptr 0 0), (1, .ptr 2 0), (2, .slo 6 0 n 0), (7, .int .i64 i)]
abbrev doU (n i : Nat) (q : Int) : List (Nat × LV) := [(0, .ptr 0 0), (1, .ptr 2 0), (2, .slo 6 0 n 0), (7, .int .i64 i), (8, .ptr 7 0), (9, .ptr 8 0), (10, .ptr 9 0), (45, .int .i64 q)]
abbrev doV (n i : Nat) : List (Nat × LV) := [(0, .ptr 0 0), (1, .ptr 2 0), (2, .slo 6 0 n 0), (7, .int .i64 i), (8, .ptr 7 0)]
abbrev doW (n i : Nat) : List (Nat × LV) := [(0, .ptr 0 0), (1, .ptr 2 0), (2, .slo 6 0 n 0), (7, .int .i64 i), (8, .ptr 7 0), (9, .ptr 8 0), (10, .ptr 9 0)]
abbrev dV (sa sb sc sd se N C wi : Int) (nw nl ns : Nat) (ws ls ss ax qs : List LV) : List LB := [.cells [.int .i64 wi, .slo 1 0 nl 0] none, .cells ls (some 3), .cells [.int .i64 sa, .int .i64 sb, .int .i64 sc, .int .i64 sd, .int .u64 se, .slo 3 0 nw 0, .slo 4 0 nl 0, .int .u64 N, .slo 5 0 ns 0, .int .i64 C] none, .cells ws (some 1), .cells ls (some 3), .cells ss (some 1), .ro ax, .cells qs none]
abbrev dH (sa sb sc sd se N C wi : Int) (nw nl ns : Nat) (ws ls ss ax : List LV) : List LB := [.cells [.int .i64 wi, .slo 1 0 nl 0] none, .cells ls (some 3), .cells [.int .i64 sa, .int .i64 sb, .int .i64 sc, .int .i64 sd, .int .u64 se, .slo 3 0 nw 0, .slo 4 0 nl 0, .int .u64 N, .slo 5 0 ns 0, .int .i64 C] none, .cells ws (some 1), .cells ls (some 3), .cells ss (some 1), .ro ax]
abbrev dU (sa sb sc sd se N C wi : Int) (nw nl ns : Nat) (ws ls ss ax qs xs us : List LV) : List LB := [.cells [.int .i64 wi, .slo 1 0 nl 0] none, .cells ls (some 3), .cells [.int .i64 sa, .int .i64 sb, .int .i64 sc, .int .i64 sd, .int .u64 se, .slo 3 0 nw 0, .slo 4 0 nl 0, .int .u64 N, .slo 5 0 ns 0, .int .i64 C] none, .cells ws (some 1), .cells ls (some 3), .cells ss (some 1), .ro ax, .cells qs none, .cells xs none, .cells us none]
theorem do_a (n : Nat) (sa sb sc sd se N C wi : Int) (nw nl ns : Nat) (ws ls ss ax : List LV) (K : Pk) : (xsp Go.Proofs.Try.prog cxd 40 141 (seg (sp Go.Proofs.Try.prog 16) 0 2) (tm0 [.ptr 0 0, .ptr 2 0, .slo 6 0 n 0]) (mkS (dH sa sb sc sd se N C wi nw nl ns ws ls ss ax)) (vK doL K)) = (
  K .normal [.ptr 0 0, .ptr 2 0, .slo 6 0 n 0, .bool false, .int .i64 0, .tup [], .tup [], .tup [], .tup []] [some (.cells [.int .i64 wi, .slo 1 0 nl 0] none), some (.cells ls (some 3)), some (.cells [.int .i64 sa, .int .i64 sb, .int .i64 sc, .int .i64 sd, .int .u64 se, .slo 3 0 nw 0, .slo 4 0 nl 0, .int .u64 N, .slo 5 0 ns 0, .int .i64 C] none), some (.cells ws (some 1)), some (.cells ls (some 3)), some (.cells ss (some 1)), some (.ro ax)] []) := by kernel_rfl
theorem do_b (n i : Nat) (sa sb sc sd se N C wi : Int) (nw nl ns : Nat) (ws ls ss ax : List LV) (K : Pk) : (xsp Go.Proofs.Try.prog cxd 40 141 (seg (spineL (loopOf (nthC (sp Go.Proofs.Try.prog 16) 2))) 0 2) (mkTm 141 (doT n i)) (mkS (dH sa sb sc sd se N C wi nw nl ns ws ls ss ax)) (vK doL K)) = (
  bif xcm .lss ↑i ↑n then (
   bif xcm .lss (↑i) 60 then (
    K .normal [.ptr 0 0, .ptr 2 0, .slo 6 0 n 0, .any, .int .i64 ↑i, .any, .any, .any, .any] [some (.cells [.int .i64 wi, .slo 1 0 nl 0] none), some (.cells ls (some 3)), some (.cells [.int .i64 sa, .int .i64 sb, .int .i64 sc, .int .i64 sd, .int .u64 se, .slo 3 0 nw 0, .slo 4 0 nl 0, .int .u64 N, .slo 5 0 ns 0, .int .i64 C] none), some (.cells ws (some 1)), some (.cells ls (some 3)), some (.cells ss (some 1)), some (.ro ax)] [])
   else (
    K (.exit 0) [.ptr 0 0, .ptr 2 0, .slo 6 0 n 0, .any, .int .i64 ↑i, .any, .any, .any, .any] [some (.cells [.int .i64 wi, .slo 1 0 nl 0] none), some (.cells ls (some 3)), some (.cells [.int .i64 sa, .int .i64 sb, .int .i64 sc, .int .i64 sd, .int .u64 se, .slo 3 0 nw 0, .slo 4 0 nl 0, .int .u64 N, .slo 5 0 ns 0, .int .i64 C] none), some (.cells ws (some 1)), some (.cells ls (some 3)), some (.cells ss (some 1)), some (.ro ax)] []))
  else (
   K (.exit 0) [.ptr 0 0, .ptr 2 0, .slo 6 0 n 0, .any, .int .i64 ↑i, .any, .any, .any, .any] [some (.cells [.int .i64 wi, .slo 1 0 nl 0] none), some (.cells ls (some 3)), some (.cells [.int .i64 sa, .int .i64 sb, .int .i64 sc, .int .i64 sd, .int .u64 se, .slo 3 0 nw 0, .slo 4 0 nl 0, .int .u64 N, .slo 5 0 ns 0, .int .i64 C] none), some (.cells ws (some 1)), some (.cells ls (some 3)), some (.cells ss (some 1)), some (.ro ax)] [])) := by kernel_rfl
theorem do_c (n i : Nat) (sa sb sc sd se N C wi : Int) (nw nl ns : Nat) (ws ls ss ax : List LV) (K : Pk) : (xsp Go.Proofs.Try.prog cxd 40 141 (seg (spineL (blockIn (nthC (spineL (loopOf (nthC (sp Go.Proofs.Try.prog 16) 2))) 2))) 0 1) (mkTm 141 (doT n i)) (mkS (dH sa sb sc sd se N C wi nw nl ns ws ls ss ax)) (vK doL K)) = (
  bif xle (xadd (xnat ↑i) 1) n then
  bif xle (xadd (xix 0 (xnat ↑i) 8) 8) (xln ax) then
  bif isI .i64 (nthD ax (xix 0 (xnat ↑i) 8)) then
  bif isI .i64 (nthD ax (xadd (xix 0 (xnat ↑i) 8) 1)) then
  bif isI .u64 (nthD ax (xadd (xadd (xix 0 (xnat ↑i) 8) 1) 1)) then
  bif isB (nthD ax (xadd (xadd (xadd (xix 0 (xnat ↑i) 8) 1) 1) 1)) then
  bif isI .i64 (nthD ax (xadd (xadd (xadd (xadd (xix 0 (xnat ↑i) 8) 1) 1) 1) 1)) then
  bif isI .u64 (nthD ax (xadd (xadd (xadd (xadd (xadd (xix 0 (xnat ↑i) 8) 1) 1) 1) 1) 1)) then
  bif isB (nthD ax (xadd (xadd (xadd (xadd (xadd (xadd (xix 0 (xnat ↑i) 8) 1) 1) 1) 1) 1) 1)) then
  bif isI .i64 (nthD ax (xadd (xadd (xadd (xadd (xadd (xadd (xadd (xix 0 (xnat ↑i) 8) 1) 1) 1) 1) 1) 1) 1)) then
  K .normal [.ptr 0 0, .ptr 2 0, .slo 6 0 n 0, .any, .int .i64 ↑i, .ptr 7 0, .any, .any, .any] [some (.cells [.int .i64 wi, .slo 1 0 nl 0] none), some (.cells ls (some 3)), some (.cells [.int .i64 sa, .int .i64 sb, .int .i64 sc, .int .i64 sd, .int .u64 se, .slo 3 0 nw 0, .slo 4 0 nl 0, .int .u64 N, .slo 5 0 ns 0, .int .i64 C] none), some (.cells ws (some 1)), some (.cells ls (some 3)), some (.cells ss (some 1)), some (.ro ax), some (.cells [.int .i64 (asI (nthD ax (xix 0 (xnat ↑i) 8))), .int .i64 (asI (nthD ax (xadd (xix 0 (xnat ↑i) 8) 1))), .int .u64 (asI (nthD ax (xadd (xadd (xix 0 (xnat ↑i) 8) 1) 1))), .bool (asB (nthD ax (xadd (xadd (xadd (xix 0 (xnat ↑i) 8) 1) 1) 1))), .int .i64 (asI (nthD ax (xadd (xadd (xadd (xadd (xix 0 (xnat ↑i) 8) 1) 1) 1) 1))), .int .u64 (asI (nthD ax (xadd (xadd (xadd (xadd (xadd (xix 0 (xnat ↑i) 8) 1) 1) 1) 1) 1))), .bool (asB (nthD ax (xadd (xadd (xadd (xadd (xadd (xadd (xix 0 (xnat ↑i) 8) 1) 1) 1) 1) 1) 1))), .int .i64 (asI (nthD ax (xadd (xadd (xadd (xadd (xadd (xadd (xadd (xix 0 (xnat ↑i) 8) 1) 1) 1) 1) 1) 1) 1)))] none)] []
  else False
  else False
  else False
  else False
  else False
  else False
  else False
  else False
  else False
  else False) := by kernel_rfl
theorem do_r (n i : Nat) (qk qi wv : Int) (wh : Bool) (wo lv : Int) (lh : Bool) (lo : Int) (sa sb sc sd se N C wi : Int) (nw nl ns : Nat) (ws ls ss ax : List LV) (K : Pk) : (xorders Go.Proofs.Try.prog cxd 40 141 (nthC (spineL (blockIn (nthC (spineL (loopOf (nthC (sp Go.Proofs.Try.prog 16) 2))) 2))) 1) (mkTm 141 (doV n i)) (mkS (dV sa sb sc sd se N C wi nw nl ns ws ls ss ax [.int .i64 qk, .int .i64 qi, .int .u64 wv, .bool wh, .int .i64 wo, .int .u64 lv, .bool lh, .int .i64 lo])) (vK doL K)) = (
  (
   bif xcm .eql lv lv then
   bif xbq lh lh then
   bif xcm .eql lo lo then
   bif xcm .eql lv lv then
   bif xbq lh lh then
   bif xcm .eql lo lo then
   bif xcm .eql lv lv then
   bif xbq lh lh then
   bif xcm .eql lo lo then
   bif xcm .eql lv lv then
   bif xbq lh lh then
   bif xcm .eql lo lo then
   bif xcm .eql qk qk then
   bif xcm .eql qk qk then
   bif xcm .eql qk qk then
   bif xcm .eql qk qk then
   bif xcm .eql wv wv then
   bif xbq wh wh then
   bif xcm .eql wo wo then
   bif xcm .eql wv wv then
   bif xbq wh wh then
   bif xcm .eql wo wo then
   bif xcm .eql wv wv then
   bif xbq wh wh then
   bif xcm .eql wo wo then
   bif xcm .eql wv wv then
   bif xbq wh wh then
   bif xcm .eql wo wo then
   bif xcm .eql wv wv then
   bif xbq wh wh then
   bif xcm .eql wo wo then
   bif xcm .eql wv wv then
   bif xbq wh wh then
   bif xcm .eql wo wo then
   bif xcm .eql qk qk then
   bif xcm .eql qk qk then
   bif xcm .eql qk qk then
   bif xcm .eql qk qk then
   bif xcm .eql qk qk then
   bif xcm .eql qk qk then
   K .normal [.ptr 0 0, .ptr 2 0, .slo 6 0 n 0, .any, .int .i64 ↑i, .ptr 7 0, .ptr 8 0, .ptr 9 0, .any] [some (.cells [.int .i64 wi, .slo 1 0 nl 0] none), some (.cells ls (some 3)), some (.cells [.int .i64 sa, .int .i64 sb, .int .i64 sc, .int .i64 sd, .int .u64 se, .slo 3 0 nw 0, .slo 4 0 nl 0, .int .u64 N, .slo 5 0 ns 0, .int .i64 C] none), some (.cells ws (some 1)), some (.cells ls (some 3)), some (.cells ss (some 1)), some (.ro ax), some (.cells [.int .i64 qk, .int .i64 qi, .int .u64 wv, .bool wh, .int .i64 wo, .int .u64 lv, .bool lh, .int .i64 lo] none), some (.cells [.int .u64 (lfV (xcm .gtr qk 40) lv), .bool lh, .int .i64 (lfO (xcm .gtr qk 40) lh lo)] none), some (.cells [.int .u64 (lfV (xcm .gtr qk 40) wv), .bool wh, .int .i64 (lfO (xcm .gtr qk 40) wh wo)] none)] []
   else False
   else False
   else False
   else False
   else False
   else False
   else False
   else False
   else False
   else False
   else False
   else False
   else False
   else False
   else False
   else False
   else False
   else False
   else False
   else False
   else False
   else False
   else False
   else False
   else False
   else False
   else False
   else False
   else False
   else False
   else False
   else False
   else False
   else False
   else False
   else False
   else False
   else False
   else False
   else False)
  ∧ (
   (
    bif xcm .eql lv lv then
    bif xbq lh lh then
    bif xcm .eql lo lo then
    bif xcm .eql lv lv then
    bif xbq lh lh then
    bif xcm .eql lo lo then
    bif xcm .eql lv lv then
    bif xbq lh lh then
    bif xcm .eql lo lo then
    bif xcm .eql lv lv then
    bif xbq lh lh then
    bif xcm .eql lo lo then
    bif xcm .eql qk qk then
    bif xcm .eql qk qk then
    bif xcm .eql qk qk then
    bif xcm .eql qk qk then
    bif xcm .eql wv wv then
    bif xbq wh wh then
    bif xcm .eql wo wo then
    bif xcm .eql wv wv then
    bif xbq wh wh then
    bif xcm .eql wo wo then
    bif xcm .eql wv wv then
    bif xbq wh wh then
    bif xcm .eql wo wo then
    bif xcm .eql wv wv then
    bif xbq wh wh then
    bif xcm .eql wo wo then
    bif xcm .eql wv wv then
    bif xbq wh wh then
    bif xcm .eql wo wo then
    bif xcm .eql wv wv then
    bif xbq wh wh then
    bif xcm .eql wo wo then
    bif xcm .eql qk qk then
    bif xcm .eql qk qk then
    bif xcm .eql qk qk then
    bif xcm .eql qk qk then
    bif xcm .eql qk qk then
    bif xcm .eql qk qk then
    K .normal [.ptr 0 0, .ptr 2 0, .slo 6 0 n 0, .any, .int .i64 ↑i, .ptr 7 0, .ptr 9 0, .ptr 8 0, .any] [some (.cells [.int .i64 wi, .slo 1 0 nl 0] none), some (.cells ls (some 3)), some (.cells [.int .i64 sa, .int .i64 sb, .int .i64 sc, .int .i64 sd, .int .u64 se, .slo 3 0 nw 0, .slo 4 0 nl 0, .int .u64 N, .slo 5 0 ns 0, .int .i64 C] none), some (.cells ws (some 1)), some (.cells ls (some 3)), some (.cells ss (some 1)), some (.ro ax), some (.cells [.int .i64 qk, .int .i64 qi, .int .u64 wv, .bool wh, .int .i64 wo, .int .u64 lv, .bool lh, .int .i64 lo] none), some (.cells [.int .u64 (lfV (xcm .gtr qk 40) wv), .bool wh, .int .i64 (lfO (xcm .gtr qk 40) wh wo)] none), some (.cells [.int .u64 (lfV (xcm .gtr qk 40) lv), .bool lh, .int .i64 (lfO (xcm .gtr qk 40) lh lo)] none)] []
    else False
    else False
    else False
    else False
    else False
    else False
    else False
    else False
    else False
    else False
    else False
    else False
    else False
    else False
    else False
    else False
    else False
    else False
    else False
    else False
    else False
    else False
    else False
    else False
    else False
    else False
    else False
    else False
    else False
    else False
    else False
    else False
    else False
    else False
    else False
    else False
    else False
    else False
    else False
    else False)
   ∧ (
    (
     bif xcm .eql lv lv then
     bif xbq lh lh then
     bif xcm .eql lo lo then
     bif xcm .eql lv lv then
     bif xbq lh lh then
     bif xcm .eql lo lo then
     bif xcm .eql lv lv then
     bif xbq lh lh then
     bif xcm .eql lo lo then
     bif xcm .eql lv lv then
     bif xbq lh lh then
     bif xcm .eql lo lo then
     bif xcm .eql qk qk then
     bif xcm .eql qk qk then
     bif xcm .eql qk qk then
     bif xcm .eql qk qk then
     bif xcm .eql wv wv then
     bif xbq wh wh then
     bif xcm .eql wo wo then
     bif xcm .eql wv wv then
     bif xbq wh wh then
     bif xcm .eql wo wo then
     bif xcm .eql wv wv then
     bif xbq wh wh then
     bif xcm .eql wo wo then
     bif xcm .eql wv wv then
     bif xbq wh wh then
     bif xcm .eql wo wo then
     bif xcm .eql wv wv then
     bif xbq wh wh then
     bif xcm .eql wo wo then
     bif xcm .eql wv wv then
     bif xbq wh wh then
     bif xcm .eql wo wo then
     bif xcm .eql qk qk then
     bif xcm .eql qk qk then
     bif xcm .eql qk qk then
     bif xcm .eql qk qk then
     bif xcm .eql qk qk then
     bif xcm .eql qk qk then
     K .normal [.ptr 0 0, .ptr 2 0, .slo 6 0 n 0, .any, .int .i64 ↑i, .ptr 7 0, .ptr 8 0, .ptr 9 0, .any] [some (.cells [.int .i64 wi, .slo 1 0 nl 0] none), some (.cells ls (some 3)), some (.cells [.int .i64 sa, .int .i64 sb, .int .i64 sc, .int .i64 sd, .int .u64 se, .slo 3 0 nw 0, .slo 4 0 nl 0, .int .u64 N, .slo 5 0 ns 0, .int .i64 C] none), some (.cells ws (some 1)), some (.cells ls (some 3)), some (.cells ss (some 1)), some (.ro ax), some (.cells [.int .i64 qk, .int .i64 qi, .int .u64 wv, .bool wh, .int .i64 wo, .int .u64 lv, .bool lh, .int .i64 lo] none), some (.cells [.int .u64 (lfV (xcm .gtr qk 40) lv), .bool lh, .int .i64 (lfO (xcm .gtr qk 40) lh lo)] none), some (.cells [.int .u64 (lfV (xcm .gtr qk 40) wv), .bool wh, .int .i64 (lfO (xcm .gtr qk 40) wh wo)] none)] []
     else False
     else False
     else False
     else False
     else False
     else False
     else False
     else False
     else False
     else False
     else False
     else False
     else False
     else False
     else False
     else False
     else False
     else False
     else False
     else False
     else False
     else False
     else False
     else False
     else False
     else False
     else False
     else False
     else False
     else False
     else False
     else False
     else False
     else False
     else False
     else False
     else False
     else False
     else False
     else False)
    ∧ (
     (
      bif xcm .eql lv lv then
      bif xbq lh lh then
      bif xcm .eql lo lo then
      bif xcm .eql lv lv then
      bif xbq lh lh then
      bif xcm .eql lo lo then
      bif xcm .eql lv lv then
      bif xbq lh lh then
      bif xcm .eql lo lo then
      bif xcm .eql lv lv then
      bif xbq lh lh then
      bif xcm .eql lo lo then
      bif xcm .eql qk qk then
      bif xcm .eql qk qk then
      bif xcm .eql qk qk then
      bif xcm .eql qk qk then
      bif xcm .eql wv wv then
      bif xbq wh wh then
      bif xcm .eql wo wo then
      bif xcm .eql wv wv then
      bif xbq wh wh then
      bif xcm .eql wo wo then
      bif xcm .eql wv wv then
      bif xbq wh wh then
      bif xcm .eql wo wo then
      bif xcm .eql wv wv then
      bif xbq wh wh then
      bif xcm .eql wo wo then
      bif xcm .eql wv wv then
      bif xbq wh wh then
      bif xcm .eql wo wo then
      bif xcm .eql wv wv then
      bif xbq wh wh then
      bif xcm .eql wo wo then
      bif xcm .eql qk qk then
      bif xcm .eql qk qk then
      bif xcm .eql qk qk then
      bif xcm .eql qk qk then
      bif xcm .eql qk qk then
      bif xcm .eql qk qk then
      K .normal [.ptr 0 0, .ptr 2 0, .slo 6 0 n 0, .any, .int .i64 ↑i, .ptr 7 0, .ptr 8 0, .ptr 9 0, .any] [some (.cells [.int .i64 wi, .slo 1 0 nl 0] none), some (.cells ls (some 3)), some (.cells [.int .i64 sa, .int .i64 sb, .int .i64 sc, .int .i64 sd, .int .u64 se, .slo 3 0 nw 0, .slo 4 0 nl 0, .int .u64 N, .slo 5 0 ns 0, .int .i64 C] none), some (.cells ws (some 1)), some (.cells ls (some 3)), some (.cells ss (some 1)), some (.ro ax), some (.cells [.int .i64 qk, .int .i64 qi, .int .u64 wv, .bool wh, .int .i64 wo, .int .u64 lv, .bool lh, .int .i64 lo] none), some (.cells [.int .u64 (lfV (xcm .gtr qk 40) lv), .bool lh, .int .i64 (lfO (xcm .gtr qk 40) lh lo)] none), some (.cells [.int .u64 (lfV (xcm .gtr qk 40) wv), .bool wh, .int .i64 (lfO (xcm .gtr qk 40) wh wo)] none)] []
      else False
      else False
      else False
      else False
      else False
      else False
      else False
      else False
      else False
      else False
      else False
      else False
      else False
      else False
      else False
      else False
      else False
      else False
      else False
      else False
      else False
      else False
      else False
      else False
      else False
      else False
      else False
      else False
      else False
      else False
      else False
      else False
      else False
      else False
      else False
      else False
      else False
      else False
      else False
      else False)
     ∧ (
      (
       bif xcm .eql lv lv then
       bif xbq lh lh then
       bif xcm .eql lo lo then
       bif xcm .eql lv lv then
       bif xbq lh lh then
       bif xcm .eql lo lo then
       bif xcm .eql lv lv then
       bif xbq lh lh then
       bif xcm .eql lo lo then
       bif xcm .eql lv lv then
       bif xbq lh lh then
       bif xcm .eql lo lo then
       bif xcm .eql qk qk then
       bif xcm .eql qk qk then
       bif xcm .eql qk qk then
       bif xcm .eql qk qk then
       bif xcm .eql wv wv then
       bif xbq wh wh then
       bif xcm .eql wo wo then
       bif xcm .eql wv wv then
       bif xbq wh wh then
       bif xcm .eql wo wo then
       bif xcm .eql wv wv then
       bif xbq wh wh then
       bif xcm .eql wo wo then
       bif xcm .eql wv wv then
       bif xbq wh wh then
       bif xcm .eql wo wo then
       bif xcm .eql wv wv then
       bif xbq wh wh then
       bif xcm .eql wo wo then
       bif xcm .eql wv wv then
       bif xbq wh wh then
       bif xcm .eql wo wo then
       bif xcm .eql qk qk then
       bif xcm .eql qk qk then
       bif xcm .eql qk qk then
       bif xcm .eql qk qk then
       bif xcm .eql qk qk then
       bif xcm .eql qk qk then
       K .normal [.ptr 0 0, .ptr 2 0, .slo 6 0 n 0, .any, .int .i64 ↑i, .ptr 7 0, .ptr 9 0, .ptr 8 0, .any] [some (.cells [.int .i64 wi, .slo 1 0 nl 0] none), some (.cells ls (some 3)), some (.cells [.int .i64 sa, .int .i64 sb, .int .i64 sc, .int .i64 sd, .int .u64 se, .slo 3 0 nw 0, .slo 4 0 nl 0, .int .u64 N, .slo 5 0 ns 0, .int .i64 C] none), some (.cells ws (some 1)), some (.cells ls (some 3)), some (.cells ss (some 1)), some (.ro ax), some (.cells [.int .i64 qk, .int .i64 qi, .int .u64 wv, .bool wh, .int .i64 wo, .int .u64 lv, .bool lh, .int .i64 lo] none), some (.cells [.int .u64 (lfV (xcm .gtr qk 40) wv), .bool wh, .int .i64 (lfO (xcm .gtr qk 40) wh wo)] none), some (.cells [.int .u64 (lfV (xcm .gtr qk 40) lv), .bool lh, .int .i64 (lfO (xcm .gtr qk 40) lh lo)] none)] []
       else False
       else False
       else False
       else False
       else False
       else False
       else False
       else False
       else False
       else False
       else False
       else False
       else False
       else False
       else False
       else False
       else False
       else False
       else False
       else False
       else False
       else False
       else False
       else False
       else False
       else False
       else False
       else False
       else False
       else False
       else False
       else False
       else False
       else False
       else False
       else False
       else False
       else False
       else False
       else False)
      ∧ (
       (
        bif xcm .eql lv lv then
        bif xbq lh lh then
        bif xcm .eql lo lo then
        bif xcm .eql lv lv then
        bif xbq lh lh then
        bif xcm .eql lo lo then
        bif xcm .eql lv lv then
        bif xbq lh lh then
        bif xcm .eql lo lo then
        bif xcm .eql lv lv then
        bif xbq lh lh then
        bif xcm .eql lo lo then
        bif xcm .eql qk qk then
        bif xcm .eql qk qk then
        bif xcm .eql qk qk then
        bif xcm .eql qk qk then
        bif xcm .eql wv wv then
        bif xbq wh wh then
        bif xcm .eql wo wo then
        bif xcm .eql wv wv then
        bif xbq wh wh then
        bif xcm .eql wo wo then
        bif xcm .eql wv wv then
        bif xbq wh wh then
        bif xcm .eql wo wo then
        bif xcm .eql wv wv then
        bif xbq wh wh then
        bif xcm .eql wo wo then
        bif xcm .eql wv wv then
        bif xbq wh wh then
        bif xcm .eql wo wo then
        bif xcm .eql wv wv then
        bif xbq wh wh then
        bif xcm .eql wo wo then
        bif xcm .eql qk qk then
        bif xcm .eql qk qk then
        bif xcm .eql qk qk then
        bif xcm .eql qk qk then
        bif xcm .eql qk qk then
        bif xcm .eql qk qk then
        K .normal [.ptr 0 0, .ptr 2 0, .slo 6 0 n 0, .any, .int .i64 ↑i, .ptr 7 0, .ptr 9 0, .ptr 8 0, .any] [some (.cells [.int .i64 wi, .slo 1 0 nl 0] none), some (.cells ls (some 3)), some (.cells [.int .i64 sa, .int .i64 sb, .int .i64 sc, .int .i64 sd, .int .u64 se, .slo 3 0 nw 0, .slo 4 0 nl 0, .int .u64 N, .slo 5 0 ns 0, .int .i64 C] none), some (.cells ws (some 1)), some (.cells ls (some 3)), some (.cells ss (some 1)), some (.ro ax), some (.cells [.int .i64 qk, .int .i64 qi, .int .u64 wv, .bool wh, .int .i64 wo, .int .u64 lv, .bool lh, .int .i64 lo] none), some (.cells [.int .u64 (lfV (xcm .gtr qk 40) wv), .bool wh, .int .i64 (lfO (xcm .gtr qk 40) wh wo)] none), some (.cells [.int .u64 (lfV (xcm .gtr qk 40) lv), .bool lh, .int .i64 (lfO (xcm .gtr qk 40) lh lo)] none)] []
        else False
        else False
        else False
        else False
        else False
        else False
        else False
        else False
        else False
        else False
        else False
        else False
        else False
        else False
        else False
        else False
        else False
        else False
        else False
        else False
        else False
        else False
        else False
        else False
        else False
        else False
        else False
        else False
        else False
        else False
        else False
        else False
        else False
        else False
        else False
        else False
        else False
        else False
        else False
        else False)
       ∧ (
        (
         bif xcm .eql lv lv then
         bif xbq lh lh then
         bif xcm .eql lo lo then
         bif xcm .eql lv lv then
         bif xbq lh lh then
         bif xcm .eql lo lo then
         bif xcm .eql lv lv then
         bif xbq lh lh then
         bif xcm .eql lo lo then
         bif xcm .eql lv lv then
         bif xbq lh lh then
         bif xcm .eql lo lo then
         bif xcm .eql qk qk then
         bif xcm .eql qk qk then
         bif xcm .eql qk qk then
         bif xcm .eql qk qk then
         bif xcm .eql wv wv then
         bif xbq wh wh then
         bif xcm .eql wo wo then
         bif xcm .eql wv wv then
         bif xbq wh wh then
         bif xcm .eql wo wo then
         bif xcm .eql wv wv then
         bif xbq wh wh then
         bif xcm .eql wo wo then
         bif xcm .eql wv wv then
         bif xbq wh wh then
         bif xcm .eql wo wo then
         bif xcm .eql wv wv then
         bif xbq wh wh then
         bif xcm .eql wo wo then
         bif xcm .eql wv wv then
         bif xbq wh wh then
         bif xcm .eql wo wo then
         bif xcm .eql qk qk then
         bif xcm .eql qk qk then
         bif xcm .eql qk qk then
         bif xcm .eql qk qk then
         bif xcm .eql qk qk then
         bif xcm .eql qk qk then
         K .normal [.ptr 0 0, .ptr 2 0, .slo 6 0 n 0, .any, .int .i64 ↑i, .ptr 7 0, .ptr 8 0, .ptr 9 0, .any] [some (.cells [.int .i64 wi, .slo 1 0 nl 0] none), some (.cells ls (some 3)), some (.cells [.int .i64 sa, .int .i64 sb, .int .i64 sc, .int .i64 sd, .int .u64 se, .slo 3 0 nw 0, .slo 4 0 nl 0, .int .u64 N, .slo 5 0 ns 0, .int .i64 C] none), some (.cells ws (some 1)), some (.cells ls (some 3)), some (.cells ss (some 1)), some (.ro ax), some (.cells [.int .i64 qk, .int .i64 qi, .int .u64 wv, .bool wh, .int .i64 wo, .int .u64 lv, .bool lh, .int .i64 lo] none), some (.cells [.int .u64 (lfV (xcm .gtr qk 40) lv), .bool lh, .int .i64 (lfO (xcm .gtr qk 40) lh lo)] none), some (.cells [.int .u64 (lfV (xcm .gtr qk 40) wv), .bool wh, .int .i64 (lfO (xcm .gtr qk 40) wh wo)] none)] []
         else False
         else False
         else False
         else False
         else False
         else False
         else False
         else False
         else False
         else False
         else False
         else False
         else False
         else False
         else False
         else False
         else False
         else False
         else False
         else False
         else False
         else False
         else False
         else False
         else False
         else False
         else False
         else False
         else False
         else False
         else False
         else False
         else False
         else False
         else False
         else False
         else False
         else False
         else False
         else False)
        ∧ (
         (
          bif xcm .eql lv lv then
          bif xbq lh lh then
          bif xcm .eql lo lo then
          bif xcm .eql lv lv then
          bif xbq lh lh then
          bif xcm .eql lo lo then
          bif xcm .eql lv lv then
          bif xbq lh lh then
          bif xcm .eql lo lo then
          bif xcm .eql lv lv then
          bif xbq lh lh then
          bif xcm .eql lo lo then
          bif xcm .eql qk qk then
          bif xcm .eql qk qk then
          bif xcm .eql qk qk then
          bif xcm .eql qk qk then
          bif xcm .eql wv wv then
          bif xbq wh wh then
          bif xcm .eql wo wo then
          bif xcm .eql wv wv then
          bif xbq wh wh then
          bif xcm .eql wo wo then
          bif xcm .eql wv wv then
          bif xbq wh wh then
          bif xcm .eql wo wo then
          bif xcm .eql wv wv then
          bif xbq wh wh then
          bif xcm .eql wo wo then
          bif xcm .eql wv wv then
          bif xbq wh wh then
          bif xcm .eql wo wo then
          bif xcm .eql wv wv then
          bif xbq wh wh then
          bif xcm .eql wo wo then
          bif xcm .eql qk qk then
          bif xcm .eql qk qk then
          bif xcm .eql qk qk then
          bif xcm .eql qk qk then
          bif xcm .eql qk qk then
          bif xcm .eql qk qk then
          K .normal [.ptr 0 0, .ptr 2 0, .slo 6 0 n 0, .any, .int .i64 ↑i, .ptr 7 0, .ptr 8 0, .ptr 9 0, .any] [some (.cells [.int .i64 wi, .slo 1 0 nl 0] none), some (.cells ls (some 3)), some (.cells [.int .i64 sa, .int .i64 sb, .int .i64 sc, .int .i64 sd, .int .u64 se, .slo 3 0 nw 0, .slo 4 0 nl 0, .int .u64 N, .slo 5 0 ns 0, .int .i64 C] none), some (.cells ws (some 1)), some (.cells ls (some 3)), some (.cells ss (some 1)), some (.ro ax), some (.cells [.int .i64 qk, .int .i64 qi, .int .u64 wv, .bool wh, .int .i64 wo, .int .u64 lv, .bool lh, .int .i64 lo] none), some (.cells [.int .u64 (lfV (xcm .gtr qk 40) lv), .bool lh, .int .i64 (lfO (xcm .gtr qk 40) lh lo)] none), some (.cells [.int .u64 (lfV (xcm .gtr qk 40) wv), .bool wh, .int .i64 (lfO (xcm .gtr qk 40) wh wo)] none)] []
          else False
          else False
          else False
          else False
          else False
          else False
          else False
          else False
          else False
          else False
          else False
          else False
          else False
          else False
          else False
          else False
          else False
          else False
          else False
          else False
          else False
          else False
          else False
          else False
          else False
          else False
          else False
          else False
          else False
          else False
          else False
          else False
          else False
          else False
          else False
          else False
          else False
          else False
          else False
          else False)
         ∧ (
          (
           bif xcm .eql lv lv then
           bif xbq lh lh then
           bif xcm .eql lo lo then
           bif xcm .eql lv lv then
           bif xbq lh lh then
           bif xcm .eql lo lo then
           bif xcm .eql lv lv then
           bif xbq lh lh then
           bif xcm .eql lo lo then
           bif xcm .eql lv lv then
           bif xbq lh lh then
           bif xcm .eql lo lo then
           bif xcm .eql qk qk then
           bif xcm .eql qk qk then
           bif xcm .eql qk qk then
           bif xcm .eql qk qk then
           bif xcm .eql wv wv then
           bif xbq wh wh then
           bif xcm .eql wo wo then
           bif xcm .eql wv wv then
           bif xbq wh wh then
           bif xcm .eql wo wo then
           bif xcm .eql wv wv then
           bif xbq wh wh then
           bif xcm .eql wo wo then
           bif xcm .eql wv wv then
           bif xbq wh wh then
           bif xcm .eql wo wo then
           bif xcm .eql wv wv then
           bif xbq wh wh then
           bif xcm .eql wo wo then
           bif xcm .eql wv wv then
           bif xbq wh wh then
           bif xcm .eql wo wo then
           bif xcm .eql qk qk then
           bif xcm .eql qk qk then
           bif xcm .eql qk qk then
           bif xcm .eql qk qk then
           bif xcm .eql qk qk then
           bif xcm .eql qk qk then
           K .normal [.ptr 0 0, .ptr 2 0, .slo 6 0 n 0, .any, .int .i64 ↑i, .ptr 7 0, .ptr 8 0, .ptr 9 0, .any] [some (.cells [.int .i64 wi, .slo 1 0 nl 0] none), some (.cells ls (some 3)), some (.cells [.int .i64 sa, .int .i64 sb, .int .i64 sc, .int .i64 sd, .int .u64 se, .slo 3 0 nw 0, .slo 4 0 nl 0, .int .u64 N, .slo 5 0 ns 0, .int .i64 C] none), some (.cells ws (some 1)), some (.cells ls (some 3)), some (.cells ss (some 1)), some (.ro ax), some (.cells [.int .i64 qk, .int .i64 qi, .int .u64 wv, .bool wh, .int .i64 wo, .int .u64 lv, .bool lh, .int .i64 lo] none), some (.cells [.int .u64 (lfV (xcm .gtr qk 40) lv), .bool lh, .int .i64 (lfO (xcm .gtr qk 40) lh lo)] none), some (.cells [.int .u64 (lfV (xcm .gtr qk 40) wv), .bool wh, .int .i64 (lfO (xcm .gtr qk 40) wh wo)] none)] []
           else False
           else False
           else False
           else False
           else False
           else False
           else False
           else False
           else False
           else False
           else False
           else False
           else False
           else False
           else False
           else False
           else False
           else False
           else False
           else False
           else False
           else False
           else False
           else False
           else False
           else False
           else False
           else False
           else False
           else False
           else False
           else False
           else False
           else False
           else False
           else False
           else False
           else False
           else False
           else False)
          ∧ (
           (
            bif xcm .eql lv lv then
            bif xbq lh lh then
            bif xcm .eql lo lo then
            bif xcm .eql lv lv then
            bif xbq lh lh then
            bif xcm .eql lo lo then
            bif xcm .eql lv lv then
            bif xbq lh lh then
            bif xcm .eql lo lo then
            bif xcm .eql lv lv then
            bif xbq lh lh then
            bif xcm .eql lo lo then
            bif xcm .eql qk qk then
            bif xcm .eql qk qk then
            bif xcm .eql qk qk then
            bif xcm .eql qk qk then
            bif xcm .eql wv wv then
            bif xbq wh wh then
            bif xcm .eql wo wo then
            bif xcm .eql wv wv then
            bif xbq wh wh then
            bif xcm .eql wo wo then
            bif xcm .eql wv wv then
            bif xbq wh wh then
            bif xcm .eql wo wo then
            bif xcm .eql wv wv then
            bif xbq wh wh then
            bif xcm .eql wo wo then
            bif xcm .eql wv wv then
            bif xbq wh wh then
            bif xcm .eql wo wo then
            bif xcm .eql wv wv then
            bif xbq wh wh then
            bif xcm .eql wo wo then
            bif xcm .eql qk qk then
            bif xcm .eql qk qk then
            bif xcm .eql qk qk then
            bif xcm .eql qk qk then
            bif xcm .eql qk qk then
            bif xcm .eql qk qk then
            K .normal [.ptr 0 0, .ptr 2 0, .slo 6 0 n 0, .any, .int .i64 ↑i, .ptr 7 0, .ptr 9 0, .ptr 8 0, .any] [some (.cells [.int .i64 wi, .slo 1 0 nl 0] none), some (.cells ls (some 3)), some (.cells [.int .i64 sa, .int .i64 sb, .int .i64 sc, .int .i64 sd, .int .u64 se, .slo 3 0 nw 0, .slo 4 0 nl 0, .int .u64 N, .slo 5 0 ns 0, .int .i64 C] none), some (.cells ws (some 1)), some (.cells ls (some 3)), some (.cells ss (some 1)), some (.ro ax), some (.cells [.int .i64 qk, .int .i64 qi, .int .u64 wv, .bool wh, .int .i64 wo, .int .u64 lv, .bool lh, .int .i64 lo] none), some (.cells [.int .u64 (lfV (xcm .gtr qk 40) wv), .bool wh, .int .i64 (lfO (xcm .gtr qk 40) wh wo)] none), some (.cells [.int .u64 (lfV (xcm .gtr qk 40) lv), .bool lh, .int .i64 (lfO (xcm .gtr qk 40) lh lo)] none)] []
            else False
            else False
            else False
            else False
            else False
            else False
            else False
            else False
            else False
            else False
            else False
            else False
            else False
            else False
            else False
            else False
            else False
            else False
            else False
            else False
            else False
            else False
            else False
            else False
            else False
            else False
            else False
            else False
            else False
            else False
            else False
            else False
            else False
            else False
            else False
            else False
            else False
            else False
            else False
            else False)
           ∧ (
            (
             bif xcm .eql lv lv then
             bif xbq lh lh then
             bif xcm .eql lo lo then
             bif xcm .eql lv lv then
             bif xbq lh lh then
             bif xcm .eql lo lo then
             bif xcm .eql lv lv then
             bif xbq lh lh then
             bif xcm .eql lo lo then
             bif xcm .eql lv lv then
             bif xbq lh lh then
             bif xcm .eql lo lo then
             bif xcm .eql qk qk then
             bif xcm .eql qk qk then
             bif xcm .eql qk qk then
             bif xcm .eql qk qk then
             bif xcm .eql wv wv then
             bif xbq wh wh then
             bif xcm .eql wo wo then
             bif xcm .eql wv wv then
             bif xbq wh wh then
             bif xcm .eql wo wo then
             bif xcm .eql wv wv then
             bif xbq wh wh then
             bif xcm .eql wo wo then
             bif xcm .eql wv wv then
             bif xbq wh wh then
             bif xcm .eql wo wo then
             bif xcm .eql wv wv then
             bif xbq wh wh then
             bif xcm .eql wo wo then
             bif xcm .eql wv wv then
             bif xbq wh wh then
             bif xcm .eql wo wo then
             bif xcm .eql qk qk then
             bif xcm .eql qk qk then
             bif xcm .eql qk qk then
             bif xcm .eql qk qk then
             bif xcm .eql qk qk then
             bif xcm .eql qk qk then
             K .normal [.ptr 0 0, .ptr 2 0, .slo 6 0 n 0, .any, .int .i64 ↑i, .ptr 7 0, .ptr 9 0, .ptr 8 0, .any] [some (.cells [.int .i64 wi, .slo 1 0 nl 0] none), some (.cells ls (some 3)), some (.cells [.int .i64 sa, .int .i64 sb, .int .i64 sc, .int .i64 sd, .int .u64 se, .slo 3 0 nw 0, .slo 4 0 nl 0, .int .u64 N, .slo 5 0 ns 0, .int .i64 C] none), some (.cells ws (some 1)), some (.cells ls (some 3)), some (.cells ss (some 1)), some (.ro ax), some (.cells [.int .i64 qk, .int .i64 qi, .int .u64 wv, .bool wh, .int .i64 wo, .int .u64 lv, .bool lh, .int .i64 lo] none), some (.cells [.int .u64 (lfV (xcm .gtr qk 40) wv), .bool wh, .int .i64 (lfO (xcm .gtr qk 40) wh wo)] none), some (.cells [.int .u64 (lfV (xcm .gtr qk 40) lv), .bool lh, .int .i64 (lfO (xcm .gtr qk 40) lh lo)] none)] []
             else False
             else False
             else False
             else False
             else False
             else False
             else False
             else False
             else False
             else False
             else False
             else False
             else False
             else False
             else False
             else False
             else False
             else False
             else False
             else False
             else False
             else False
             else False
             else False
             else False
             else False
             else False
             else False
             else False
             else False
             else False
             else False
             else False
             else False
             else False
             else False
             else False
             else False
             else False
             else False)
            ∧ (
             bif xcm .eql lv lv then
             bif xbq lh lh then
             bif xcm .eql lo lo then
             bif xcm .eql lv lv then
             bif xbq lh lh then
             bif xcm .eql lo lo then
             bif xcm .eql lv lv then
             bif xbq lh lh then
             bif xcm .eql lo lo then
             bif xcm .eql lv lv then
             bif xbq lh lh then
             bif xcm .eql lo lo then
             bif xcm .eql qk qk then
             bif xcm .eql qk qk then
             bif xcm .eql qk qk then
             bif xcm .eql qk qk then
             bif xcm .eql wv wv then
             bif xbq wh wh then
             bif xcm .eql wo wo then
             bif xcm .eql wv wv then
             bif xbq wh wh then
             bif xcm .eql wo wo then
             bif xcm .eql wv wv then
             bif xbq wh wh then
             bif xcm .eql wo wo then
             bif xcm .eql wv wv then
             bif xbq wh wh then
             bif xcm .eql wo wo then
             bif xcm .eql wv wv then
             bif xbq wh wh then
             bif xcm .eql wo wo then
             bif xcm .eql wv wv then
             bif xbq wh wh then
             bif xcm .eql wo wo then
             bif xcm .eql qk qk then
             bif xcm .eql qk qk then
             bif xcm .eql qk qk then
             bif xcm .eql qk qk then
             bif xcm .eql qk qk then
             bif xcm .eql qk qk then
             K .normal [.ptr 0 0, .ptr 2 0, .slo 6 0 n 0, .any, .int .i64 ↑i, .ptr 7 0, .ptr 9 0, .ptr 8 0, .any] [some (.cells [.int .i64 wi, .slo 1 0 nl 0] none), some (.cells ls (some 3)), some (.cells [.int .i64 sa, .int .i64 sb, .int .i64 sc, .int .i64 sd, .int .u64 se, .slo 3 0 nw 0, .slo 4 0 nl 0, .int .u64 N, .slo 5 0 ns 0, .int .i64 C] none), some (.cells ws (some 1)), some (.cells ls (some 3)), some (.cells ss (some 1)), some (.ro ax), some (.cells [.int .i64 qk, .int .i64 qi, .int .u64 wv, .bool wh, .int .i64 wo, .int .u64 lv, .bool lh, .int .i64 lo] none), some (.cells [.int .u64 (lfV (xcm .gtr qk 40) wv), .bool wh, .int .i64 (lfO (xcm .gtr qk 40) wh wo)] none), some (.cells [.int .u64 (lfV (xcm .gtr qk 40) lv), .bool lh, .int .i64 (lfO (xcm .gtr qk 40) lh lo)] none)] []
             else False
             else False
             else False
             else False
             else False
             else False
             else False
             else False
             else False
             else False
             else False
             else False
             else False
             else False
             else False
             else False
             else False
             else False
             else False
             else False
             else False
             else False
             else False
             else False
             else False
             else False
             else False
             else False
             else False
             else False
             else False
             else False
             else False
             else False
             else False
             else False
             else False
             else False
             else False
             else False)))))))))))) := by kernel_rfl
theorem do_s (n i : Nat) (qk qi : Int) (q2 q3 q4 q5 q6 q7 : LV) (xs us : List LV) (sa sb sc sd se N C wi : Int) (nw nl ns : Nat) (ws ls ss ax : List LV) (K : Pk) : (xsp Go.Proofs.Try.prog cxd 40 141 (seg (spineL (blockIn (nthC (spineL (loopOf (nthC (sp Go.Proofs.Try.prog 16) 2))) 2))) 2 1) (mkTm 141 (doW n i)) (mkS (dU sa sb sc sd se N C wi nw nl ns ws ls ss ax [.int .i64 qk, .int .i64 qi, q2, q3, q4, q5, q6, q7] xs us)) (vK doL K)) = (
  K .normal [.ptr 0 0, .ptr 2 0, .slo 6 0 n 0, .any, .int .i64 ↑i, .ptr 7 0, .ptr 8 0, .ptr 9 0, .int .i64 (xar .and .i64 qk 3)] [some (.cells [.int .i64 wi, .slo 1 0 nl 0] none), some (.cells ls (some 3)), some (.cells [.int .i64 sa, .int .i64 sb, .int .i64 sc, .int .i64 sd, .int .u64 se, .slo 3 0 nw 0, .slo 4 0 nl 0, .int .u64 N, .slo 5 0 ns 0, .int .i64 C] none), some (.cells ws (some 1)), some (.cells ls (some 3)), some (.cells ss (some 1)), some (.ro ax), some (.cells [.int .i64 qk, .int .i64 qi, q2, q3, q4, q5, q6, q7] none), some (.cells xs none), some (.cells us none)] []) := by kernel_rfl
theorem do_d (n i : Nat) (q qk qi xv xo uv uo : Int) (xh uh : Bool) (q2 q3 q4 q5 q6 q7 : LV) (sa sb sc sd se N C wi : Int) (nw nl ns : Nat) (ws ls ss ax : List LV) (K : Pk) : (xcode Go.Proofs.Try.prog cxd 40 141 (nthC (spineL (blockIn (nthC (spineL (loopOf (nthC (sp Go.Proofs.Try.prog 16) 2))) 2))) 3) (mkTm 141 (doU n i q)) (mkS (dU sa sb sc sd se N C wi nw nl ns ws ls ss ax [.int .i64 qk, .int .i64 qi, q2, q3, q4, q5, q6, q7] [.int .u64 xv, .bool xh, .int .i64 xo] [.int .u64 uv, .bool uh, .int .i64 uo])) (vK doL K)) = (
  bif xcm .eql q 0 then (
   bif okL ls nl then
   bif okIu64 ws nw then
   bif okL ls nl then
   bif okIu64 ss ns then
   bif xle nw 1000000 then
   bif xle ns 1000000 then
   bif xnot (xand (xcm .eql (vV ls nl qi) (vV ls nl qi)) (xand (xbq (vH ls nl qi) (vH ls nl qi)) (xand (xcm .eql (vO ls nl qi) (vO ls nl qi)) true))) then (
    K .ret [.ptr 0 0, .ptr 2 0, .slo 6 0 n 0, .bool false, .int .i64 ↑i, .ptr 7 0, .ptr 8 0, .ptr 9 0, .int .i64 q] [some (.cells [.int .i64 wi, .slo 1 0 nl 0] none), some (.cells ls (some 3)), some (.cells [.int .i64 sa, .int .i64 sb, .int .i64 sc, .int .i64 sd, .int .u64 se, .slo 3 0 nw 0, .slo 4 0 nl 0, .int .u64 N, .slo 5 0 ns 0, .int .i64 (vC (vE nl qi) C)] none), some (.cells ws (some 1)), some (.cells ls (some 3)), some (.cells ss (some 1)), some (.ro ax), some (.cells [.int .i64 qk, .int .i64 qi, q2, q3, q4, q5, q6, q7] none), some (.cells [.int .u64 xv, .bool xh, .int .i64 xo] none), some (.cells [.int .u64 uv, .bool uh, .int .i64 uo] none), some (.cells [.int .u64 (vV ls nl qi), .bool (vH ls nl qi), .int .i64 (vO ls nl qi)] none), some (.cells [.int .u64 0, .int .u64 (vV ls nl qi), .bool (vH ls nl qi), .int .i64 (vO ls nl qi), .bool false, .int .i64 (vE nl qi)] none)] [])
   else (
    bif xcm .neq (vE nl qi) (vE nl qi) then (
     K .ret [.ptr 0 0, .ptr 2 0, .slo 6 0 n 0, .bool false, .int .i64 ↑i, .ptr 7 0, .ptr 8 0, .ptr 9 0, .int .i64 q] [some (.cells [.int .i64 wi, .slo 1 0 nl 0] none), some (.cells ls (some 3)), some (.cells [.int .i64 sa, .int .i64 sb, .int .i64 sc, .int .i64 sd, .int .u64 se, .slo 3 0 nw 0, .slo 4 0 nl 0, .int .u64 N, .slo 5 0 ns 0, .int .i64 (vC (vE nl qi) C)] none), some (.cells ws (some 1)), some (.cells ls (some 3)), some (.cells ss (some 1)), some (.ro ax), some (.cells [.int .i64 qk, .int .i64 qi, q2, q3, q4, q5, q6, q7] none), some (.cells [.int .u64 xv, .bool xh, .int .i64 xo] none), some (.cells [.int .u64 uv, .bool uh, .int .i64 uo] none), some (.cells [.int .u64 (vV ls nl qi), .bool (vH ls nl qi), .int .i64 (vO ls nl qi)] none), some (.cells [.int .u64 0, .int .u64 (vV ls nl qi), .bool (vH ls nl qi), .int .i64 (vO ls nl qi), .bool false, .int .i64 (vE nl qi)] none)] [])
    else (
     K .normal [.ptr 0 0, .ptr 2 0, .slo 6 0 n 0, .any, .int .i64 ↑i, .ptr 7 0, .ptr 8 0, .ptr 9 0, .int .i64 q] [some (.cells [.int .i64 wi, .slo 1 0 nl 0] none), some (.cells ls (some 3)), some (.cells [.int .i64 sa, .int .i64 sb, .int .i64 sc, .int .i64 sd, .int .u64 se, .slo 3 0 nw 0, .slo 4 0 nl 0, .int .u64 N, .slo 5 0 ns 0, .int .i64 (vC (vE nl qi) C)] none), some (.cells ws (some 1)), some (.cells ls (some 3)), some (.cells ss (some 1)), some (.ro ax), some (.cells [.int .i64 qk, .int .i64 qi, q2, q3, q4, q5, q6, q7] none), some (.cells [.int .u64 xv, .bool xh, .int .i64 xo] none), some (.cells [.int .u64 uv, .bool uh, .int .i64 uo] none), some (.cells [.int .u64 (vV ls nl qi), .bool (vH ls nl qi), .int .i64 (vO ls nl qi)] none), some (.cells [.int .u64 0, .int .u64 (vV ls nl qi), .bool (vH ls nl qi), .int .i64 (vO ls nl qi), .bool false, .int .i64 (vE nl qi)] none)] []))
   else False
   else False
   else False
   else False
   else False
   else False)
  else (
   bif xcm .eql q 1 then (
    bif okL ls nl then
    bif okIu64 ws nw then
    bif okL ls nl then
    bif okIu64 ss ns then
    bif xle nw 1000000 then
    bif xle ns 1000000 then
    bif xcm .eql qi qi then
    bif xcm .eql qi qi then
    bif xcm .eql xv xv then
    bif xbq xh xh then
    bif xcm .eql xo xo then
    bif xcm .eql xv xv then
    bif xbq xh xh then
    bif xcm .eql xo xo then
    bif xcm .neq (vQ nl qi xv xh xo) (vQ nl qi xv xh xo) then (
     K .ret [.ptr 0 0, .ptr 2 0, .slo 6 0 n 0, .bool false, .int .i64 ↑i, .ptr 7 0, .ptr 8 0, .ptr 9 0, .int .i64 q] [some (.cells [.int .i64 wi, .slo 1 0 nl 0] none), some (.cells (vS ls nl qi xv xh xo) (some 3)), some (.cells [.int .i64 sa, .int .i64 sb, .int .i64 sc, .int .i64 sd, .int .u64 se, .slo 3 0 nw 0, .slo 4 0 nl 0, .int .u64 N, .slo 5 0 ns 0, .int .i64 (vC (vQ nl qi xv xh xo) C)] none), some (.cells ws (some 1)), some (.cells (vS ls nl qi xv xh xo) (some 3)), some (.cells ss (some 1)), some (.ro ax), some (.cells [.int .i64 qk, .int .i64 qi, q2, q3, q4, q5, q6, q7] none), some (.cells [.int .u64 xv, .bool xh, .int .i64 xo] none), some (.cells [.int .u64 uv, .bool uh, .int .i64 uo] none)] [])
    else (
     K .normal [.ptr 0 0, .ptr 2 0, .slo 6 0 n 0, .any, .int .i64 ↑i, .ptr 7 0, .ptr 8 0, .ptr 9 0, .int .i64 q] [some (.cells [.int .i64 wi, .slo 1 0 nl 0] none), some (.cells (vS ls nl qi xv xh xo) (some 3)), some (.cells [.int .i64 sa, .int .i64 sb, .int .i64 sc, .int .i64 sd, .int .u64 se, .slo 3 0 nw 0, .slo 4 0 nl 0, .int .u64 N, .slo 5 0 ns 0, .int .i64 (vC (vQ nl qi xv xh xo) C)] none), some (.cells ws (some 1)), some (.cells (vS ls nl qi xv xh xo) (some 3)), some (.cells ss (some 1)), some (.ro ax), some (.cells [.int .i64 qk, .int .i64 qi, q2, q3, q4, q5, q6, q7] none), some (.cells [.int .u64 xv, .bool xh, .int .i64 xo] none), some (.cells [.int .u64 uv, .bool uh, .int .i64 uo] none)] [])
    else False
    else False
    else False
    else False
    else False
    else False
    else False
    else False
    else False
    else False
    else False
    else False
    else False
    else False)
   else (
    bif xcm .eql (xar .and .i64 qk 3) 3 then (
     bif xcm .geq qi 0 then (
      bif xcm .lss qi ↑nl then (
       bif xnn qi then
       bif xle (xadd (xnat qi) 1) nl then
       bif xle (xadd (xix 0 (xnat qi) 3) 3) (xln ls) then
       bif isI .u64 (nthD ls (xix 0 (xnat qi) 3)) then
       bif isB (nthD ls (xadd (xix 0 (xnat qi) 3) 1)) then
       bif isI .i64 (nthD ls (xadd (xadd (xix 0 (xnat qi) 3) 1) 1)) then
       bif okL ls nl then
       bif okIu64 ws nw then
       bif okL ls nl then
       bif okIu64 ss ns then
       bif xle nw 1000000 then
       bif xle ns 1000000 then
       bif xnot (xbq (vD ls nl qi (asI (nthD ls (xix 0 (xnat qi) 3))) (asB (nthD ls (xadd (xix 0 (xnat qi) 3) 1))) (asI (nthD ls (xadd (xadd (xix 0 (xnat qi) 3) 1) 1))) xv xh xo) (vD ls nl qi (asI (nthD ls (xix 0 (xnat qi) 3))) (asB (nthD ls (xadd (xix 0 (xnat qi) 3) 1))) (asI (nthD ls (xadd (xadd (xix 0 (xnat qi) 3) 1) 1))) xv xh xo)) then (
        K .ret [.ptr 0 0, .ptr 2 0, .slo 6 0 n 0, .bool false, .int .i64 ↑i, .ptr 7 0, .ptr 8 0, .ptr 9 0, .int .i64 q] [some (.cells [.int .i64 wi, .slo 1 0 nl 0] none), some (.cells (vX ls nl qi (asI (nthD ls (xix 0 (xnat qi) 3))) (asB (nthD ls (xadd (xix 0 (xnat qi) 3) 1))) (asI (nthD ls (xadd (xadd (xix 0 (xnat qi) 3) 1) 1))) xv xh xo) (some 3)), some (.cells [.int .i64 sa, .int .i64 sb, .int .i64 sc, .int .i64 sd, .int .u64 se, .slo 3 0 nw 0, .slo 4 0 nl 0, .int .u64 N, .slo 5 0 ns 0, .int .i64 (vC (vQ nl qi xv xh xo) C)] none), some (.cells ws (some 1)), some (.cells (vX ls nl qi (asI (nthD ls (xix 0 (xnat qi) 3))) (asB (nthD ls (xadd (xix 0 (xnat qi) 3) 1))) (asI (nthD ls (xadd (xadd (xix 0 (xnat qi) 3) 1) 1))) xv xh xo) (some 3)), some (.cells ss (some 1)), some (.ro ax), some (.cells [.int .i64 qk, .int .i64 qi, q2, q3, q4, q5, q6, q7] none), some (.cells [.int .u64 xv, .bool xh, .int .i64 xo] none), some (.cells [.int .u64 (asI (nthD ls (xix 0 (xnat qi) 3))), .bool (asB (nthD ls (xadd (xix 0 (xnat qi) 3) 1))), .int .i64 (asI (nthD ls (xadd (xadd (xix 0 (xnat qi) 3) 1) 1)))] none), some (.cells [.int .u64 0, .int .u64 0, .bool false, .int .i64 0, .bool (vD ls nl qi (asI (nthD ls (xix 0 (xnat qi) 3))) (asB (nthD ls (xadd (xix 0 (xnat qi) 3) 1))) (asI (nthD ls (xadd (xadd (xix 0 (xnat qi) 3) 1) 1))) xv xh xo), .int .i64 (vQ nl qi xv xh xo)] none)] [])
       else (
        bif xcm .neq (vQ nl qi xv xh xo) (vQ nl qi xv xh xo) then (
         K .ret [.ptr 0 0, .ptr 2 0, .slo 6 0 n 0, .bool false, .int .i64 ↑i, .ptr 7 0, .ptr 8 0, .ptr 9 0, .int .i64 q] [some (.cells [.int .i64 wi, .slo 1 0 nl 0] none), some (.cells (vX ls nl qi (asI (nthD ls (xix 0 (xnat qi) 3))) (asB (nthD ls (xadd (xix 0 (xnat qi) 3) 1))) (asI (nthD ls (xadd (xadd (xix 0 (xnat qi) 3) 1) 1))) xv xh xo) (some 3)), some (.cells [.int .i64 sa, .int .i64 sb, .int .i64 sc, .int .i64 sd, .int .u64 se, .slo 3 0 nw 0, .slo 4 0 nl 0, .int .u64 N, .slo 5 0 ns 0, .int .i64 (vC (vQ nl qi xv xh xo) C)] none), some (.cells ws (some 1)), some (.cells (vX ls nl qi (asI (nthD ls (xix 0 (xnat qi) 3))) (asB (nthD ls (xadd (xix 0 (xnat qi) 3) 1))) (asI (nthD ls (xadd (xadd (xix 0 (xnat qi) 3) 1) 1))) xv xh xo) (some 3)), some (.cells ss (some 1)), some (.ro ax), some (.cells [.int .i64 qk, .int .i64 qi, q2, q3, q4, q5, q6, q7] none), some (.cells [.int .u64 xv, .bool xh, .int .i64 xo] none), some (.cells [.int .u64 (asI (nthD ls (xix 0 (xnat qi) 3))), .bool (asB (nthD ls (xadd (xix 0 (xnat qi) 3) 1))), .int .i64 (asI (nthD ls (xadd (xadd (xix 0 (xnat qi) 3) 1) 1)))] none), some (.cells [.int .u64 0, .int .u64 0, .bool false, .int .i64 0, .bool (vD ls nl qi (asI (nthD ls (xix 0 (xnat qi) 3))) (asB (nthD ls (xadd (xix 0 (xnat qi) 3) 1))) (asI (nthD ls (xadd (xadd (xix 0 (xnat qi) 3) 1) 1))) xv xh xo), .int .i64 (vQ nl qi xv xh xo)] none)] [])
        else (
         K .normal [.ptr 0 0, .ptr 2 0, .slo 6 0 n 0, .any, .int .i64 ↑i, .ptr 7 0, .ptr 8 0, .ptr 9 0, .int .i64 q] [some (.cells [.int .i64 wi, .slo 1 0 nl 0] none), some (.cells (vX ls nl qi (asI (nthD ls (xix 0 (xnat qi) 3))) (asB (nthD ls (xadd (xix 0 (xnat qi) 3) 1))) (asI (nthD ls (xadd (xadd (xix 0 (xnat qi) 3) 1) 1))) xv xh xo) (some 3)), some (.cells [.int .i64 sa, .int .i64 sb, .int .i64 sc, .int .i64 sd, .int .u64 se, .slo 3 0 nw 0, .slo 4 0 nl 0, .int .u64 N, .slo 5 0 ns 0, .int .i64 (vC (vQ nl qi xv xh xo) C)] none), some (.cells ws (some 1)), some (.cells (vX ls nl qi (asI (nthD ls (xix 0 (xnat qi) 3))) (asB (nthD ls (xadd (xix 0 (xnat qi) 3) 1))) (asI (nthD ls (xadd (xadd (xix 0 (xnat qi) 3) 1) 1))) xv xh xo) (some 3)), some (.cells ss (some 1)), some (.ro ax), some (.cells [.int .i64 qk, .int .i64 qi, q2, q3, q4, q5, q6, q7] none), some (.cells [.int .u64 xv, .bool xh, .int .i64 xo] none), some (.cells [.int .u64 (asI (nthD ls (xix 0 (xnat qi) 3))), .bool (asB (nthD ls (xadd (xix 0 (xnat qi) 3) 1))), .int .i64 (asI (nthD ls (xadd (xadd (xix 0 (xnat qi) 3) 1) 1)))] none), some (.cells [.int .u64 0, .int .u64 0, .bool false, .int .i64 0, .bool (vD ls nl qi (asI (nthD ls (xix 0 (xnat qi) 3))) (asB (nthD ls (xadd (xix 0 (xnat qi) 3) 1))) (asI (nthD ls (xadd (xadd (xix 0 (xnat qi) 3) 1) 1))) xv xh xo), .int .i64 (vQ nl qi xv xh xo)] none)] []))
       else False
       else False
       else False
       else False
       else False
       else False
       else False
       else False
       else False
       else False
       else False
       else False)
      else (
       bif okL ls nl then
       bif okIu64 ws nw then
       bif okL ls nl then
       bif okIu64 ss ns then
       bif xle nw 1000000 then
       bif xle ns 1000000 then
       bif xnot (xbq (vD ls nl qi uv uh uo xv xh xo) (vD ls nl qi uv uh uo xv xh xo)) then (
        K .ret [.ptr 0 0, .ptr 2 0, .slo 6 0 n 0, .bool false, .int .i64 ↑i, .ptr 7 0, .ptr 8 0, .ptr 9 0, .int .i64 q] [some (.cells [.int .i64 wi, .slo 1 0 nl 0] none), some (.cells (vX ls nl qi uv uh uo xv xh xo) (some 3)), some (.cells [.int .i64 sa, .int .i64 sb, .int .i64 sc, .int .i64 sd, .int .u64 se, .slo 3 0 nw 0, .slo 4 0 nl 0, .int .u64 N, .slo 5 0 ns 0, .int .i64 (vC (vQ nl qi xv xh xo) C)] none), some (.cells ws (some 1)), some (.cells (vX ls nl qi uv uh uo xv xh xo) (some 3)), some (.cells ss (some 1)), some (.ro ax), some (.cells [.int .i64 qk, .int .i64 qi, q2, q3, q4, q5, q6, q7] none), some (.cells [.int .u64 xv, .bool xh, .int .i64 xo] none), some (.cells [.int .u64 uv, .bool uh, .int .i64 uo] none), some (.cells [.int .u64 0, .int .u64 0, .bool false, .int .i64 0, .bool (vD ls nl qi uv uh uo xv xh xo), .int .i64 (vQ nl qi xv xh xo)] none)] [])
       else (
        bif xcm .neq (vQ nl qi xv xh xo) (vQ nl qi xv xh xo) then (
         K .ret [.ptr 0 0, .ptr 2 0, .slo 6 0 n 0, .bool false, .int .i64 ↑i, .ptr 7 0, .ptr 8 0, .ptr 9 0, .int .i64 q] [some (.cells [.int .i64 wi, .slo 1 0 nl 0] none), some (.cells (vX ls nl qi uv uh uo xv xh xo) (some 3)), some (.cells [.int .i64 sa, .int .i64 sb, .int .i64 sc, .int .i64 sd, .int .u64 se, .slo 3 0 nw 0, .slo 4 0 nl 0, .int .u64 N, .slo 5 0 ns 0, .int .i64 (vC (vQ nl qi xv xh xo) C)] none), some (.cells ws (some 1)), some (.cells (vX ls nl qi uv uh uo xv xh xo) (some 3)), some (.cells ss (some 1)), some (.ro ax), some (.cells [.int .i64 qk, .int .i64 qi, q2, q3, q4, q5, q6, q7] none), some (.cells [.int .u64 xv, .bool xh, .int .i64 xo] none), some (.cells [.int .u64 uv, .bool uh, .int .i64 uo] none), some (.cells [.int .u64 0, .int .u64 0, .bool false, .int .i64 0, .bool (vD ls nl qi uv uh uo xv xh xo), .int .i64 (vQ nl qi xv xh xo)] none)] [])
        else (
         K .normal [.ptr 0 0, .ptr 2 0, .slo 6 0 n 0, .any, .int .i64 ↑i, .ptr 7 0, .ptr 8 0, .ptr 9 0, .int .i64 q] [some (.cells [.int .i64 wi, .slo 1 0 nl 0] none), some (.cells (vX ls nl qi uv uh uo xv xh xo) (some 3)), some (.cells [.int .i64 sa, .int .i64 sb, .int .i64 sc, .int .i64 sd, .int .u64 se, .slo 3 0 nw 0, .slo 4 0 nl 0, .int .u64 N, .slo 5 0 ns 0, .int .i64 (vC (vQ nl qi xv xh xo) C)] none), some (.cells ws (some 1)), some (.cells (vX ls nl qi uv uh uo xv xh xo) (some 3)), some (.cells ss (some 1)), some (.ro ax), some (.cells [.int .i64 qk, .int .i64 qi, q2, q3, q4, q5, q6, q7] none), some (.cells [.int .u64 xv, .bool xh, .int .i64 xo] none), some (.cells [.int .u64 uv, .bool uh, .int .i64 uo] none), some (.cells [.int .u64 0, .int .u64 0, .bool false, .int .i64 0, .bool (vD ls nl qi uv uh uo xv xh xo), .int .i64 (vQ nl qi xv xh xo)] none)] []))
       else False
       else False
       else False
       else False
       else False
       else False))
     else (
      bif okL ls nl then
      bif okIu64 ws nw then
      bif okL ls nl then
      bif okIu64 ss ns then
      bif xle nw 1000000 then
      bif xle ns 1000000 then
      bif xnot (xbq (vD ls nl qi uv uh uo xv xh xo) (vD ls nl qi uv uh uo xv xh xo)) then (
       K .ret [.ptr 0 0, .ptr 2 0, .slo 6 0 n 0, .bool false, .int .i64 ↑i, .ptr 7 0, .ptr 8 0, .ptr 9 0, .int .i64 q] [some (.cells [.int .i64 wi, .slo 1 0 nl 0] none), some (.cells (vX ls nl qi uv uh uo xv xh xo) (some 3)), some (.cells [.int .i64 sa, .int .i64 sb, .int .i64 sc, .int .i64 sd, .int .u64 se, .slo 3 0 nw 0, .slo 4 0 nl 0, .int .u64 N, .slo 5 0 ns 0, .int .i64 (vC (vQ nl qi xv xh xo) C)] none), some (.cells ws (some 1)), some (.cells (vX ls nl qi uv uh uo xv xh xo) (some 3)), some (.cells ss (some 1)), some (.ro ax), some (.cells [.int .i64 qk, .int .i64 qi, q2, q3, q4, q5, q6, q7] none), some (.cells [.int .u64 xv, .bool xh, .int .i64 xo] none), some (.cells [.int .u64 uv, .bool uh, .int .i64 uo] none), some (.cells [.int .u64 0, .int .u64 0, .bool false, .int .i64 0, .bool (vD ls nl qi uv uh uo xv xh xo), .int .i64 (vQ nl qi xv xh xo)] none)] [])
      else (
       bif xcm .neq (vQ nl qi xv xh xo) (vQ nl qi xv xh xo) then (
        K .ret [.ptr 0 0, .ptr 2 0, .slo 6 0 n 0, .bool false, .int .i64 ↑i, .ptr 7 0, .ptr 8 0, .ptr 9 0, .int .i64 q] [some (.cells [.int .i64 wi, .slo 1 0 nl 0] none), some (.cells (vX ls nl qi uv uh uo xv xh xo) (some 3)), some (.cells [.int .i64 sa, .int .i64 sb, .int .i64 sc, .int .i64 sd, .int .u64 se, .slo 3 0 nw 0, .slo 4 0 nl 0, .int .u64 N, .slo 5 0 ns 0, .int .i64 (vC (vQ nl qi xv xh xo) C)] none), some (.cells ws (some 1)), some (.cells (vX ls nl qi uv uh uo xv xh xo) (some 3)), some (.cells ss (some 1)), some (.ro ax), some (.cells [.int .i64 qk, .int .i64 qi, q2, q3, q4, q5, q6, q7] none), some (.cells [.int .u64 xv, .bool xh, .int .i64 xo] none), some (.cells [.int .u64 uv, .bool uh, .int .i64 uo] none), some (.cells [.int .u64 0, .int .u64 0, .bool false, .int .i64 0, .bool (vD ls nl qi uv uh uo xv xh xo), .int .i64 (vQ nl qi xv xh xo)] none)] [])
       else (
        K .normal [.ptr 0 0, .ptr 2 0, .slo 6 0 n 0, .any, .int .i64 ↑i, .ptr 7 0, .ptr 8 0, .ptr 9 0, .int .i64 q] [some (.cells [.int .i64 wi, .slo 1 0 nl 0] none), some (.cells (vX ls nl qi uv uh uo xv xh xo) (some 3)), some (.cells [.int .i64 sa, .int .i64 sb, .int .i64 sc, .int .i64 sd, .int .u64 se, .slo 3 0 nw 0, .slo 4 0 nl 0, .int .u64 N, .slo 5 0 ns 0, .int .i64 (vC (vQ nl qi xv xh xo) C)] none), some (.cells ws (some 1)), some (.cells (vX ls nl qi uv uh uo xv xh xo) (some 3)), some (.cells ss (some 1)), some (.ro ax), some (.cells [.int .i64 qk, .int .i64 qi, q2, q3, q4, q5, q6, q7] none), some (.cells [.int .u64 xv, .bool xh, .int .i64 xo] none), some (.cells [.int .u64 uv, .bool uh, .int .i64 uo] none), some (.cells [.int .u64 0, .int .u64 0, .bool false, .int .i64 0, .bool (vD ls nl qi uv uh uo xv xh xo), .int .i64 (vQ nl qi xv xh xo)] none)] []))
      else False
      else False
      else False
      else False
      else False
      else False))
    else (
     bif okL ls nl then
     bif okIu64 ws nw then
     bif okL ls nl then
     bif okIu64 ss ns then
     bif xle nw 1000000 then
     bif xle ns 1000000 then
     bif xnot (xbq (vD ls nl qi uv uh uo xv xh xo) (vD ls nl qi uv uh uo xv xh xo)) then (
      K .ret [.ptr 0 0, .ptr 2 0, .slo 6 0 n 0, .bool false, .int .i64 ↑i, .ptr 7 0, .ptr 8 0, .ptr 9 0, .int .i64 q] [some (.cells [.int .i64 wi, .slo 1 0 nl 0] none), some (.cells (vX ls nl qi uv uh uo xv xh xo) (some 3)), some (.cells [.int .i64 sa, .int .i64 sb, .int .i64 sc, .int .i64 sd, .int .u64 se, .slo 3 0 nw 0, .slo 4 0 nl 0, .int .u64 N, .slo 5 0 ns 0, .int .i64 (vC (vQ nl qi xv xh xo) C)] none), some (.cells ws (some 1)), some (.cells (vX ls nl qi uv uh uo xv xh xo) (some 3)), some (.cells ss (some 1)), some (.ro ax), some (.cells [.int .i64 qk, .int .i64 qi, q2, q3, q4, q5, q6, q7] none), some (.cells [.int .u64 xv, .bool xh, .int .i64 xo] none), some (.cells [.int .u64 uv, .bool uh, .int .i64 uo] none), some (.cells [.int .u64 0, .int .u64 0, .bool false, .int .i64 0, .bool (vD ls nl qi uv uh uo xv xh xo), .int .i64 (vQ nl qi xv xh xo)] none)] [])
     else (
      bif xcm .neq (vQ nl qi xv xh xo) (vQ nl qi xv xh xo) then (
       K .ret [.ptr 0 0, .ptr 2 0, .slo 6 0 n 0, .bool false, .int .i64 ↑i, .ptr 7 0, .ptr 8 0, .ptr 9 0, .int .i64 q] [some (.cells [.int .i64 wi, .slo 1 0 nl 0] none), some (.cells (vX ls nl qi uv uh uo xv xh xo) (some 3)), some (.cells [.int .i64 sa, .int .i64 sb, .int .i64 sc, .int .i64 sd, .int .u64 se, .slo 3 0 nw 0, .slo 4 0 nl 0, .int .u64 N, .slo 5 0 ns 0, .int .i64 (vC (vQ nl qi xv xh xo) C)] none), some (.cells ws (some 1)), some (.cells (vX ls nl qi uv uh uo xv xh xo) (some 3)), some (.cells ss (some 1)), some (.ro ax), some (.cells [.int .i64 qk, .int .i64 qi, q2, q3, q4, q5, q6, q7] none), some (.cells [.int .u64 xv, .bool xh, .int .i64 xo] none), some (.cells [.int .u64 uv, .bool uh, .int .i64 uo] none), some (.cells [.int .u64 0, .int .u64 0, .bool false, .int .i64 0, .bool (vD ls nl qi uv uh uo xv xh xo), .int .i64 (vQ nl qi xv xh xo)] none)] [])
      else (
       K .normal [.ptr 0 0, .ptr 2 0, .slo 6 0 n 0, .any, .int .i64 ↑i, .ptr 7 0, .ptr 8 0, .ptr 9 0, .int .i64 q] [some (.cells [.int .i64 wi, .slo 1 0 nl 0] none), some (.cells (vX ls nl qi uv uh uo xv xh xo) (some 3)), some (.cells [.int .i64 sa, .int .i64 sb, .int .i64 sc, .int .i64 sd, .int .u64 se, .slo 3 0 nw 0, .slo 4 0 nl 0, .int .u64 N, .slo 5 0 ns 0, .int .i64 (vC (vQ nl qi xv xh xo) C)] none), some (.cells ws (some 1)), some (.cells (vX ls nl qi uv uh uo xv xh xo) (some 3)), some (.cells ss (some 1)), some (.ro ax), some (.cells [.int .i64 qk, .int .i64 qi, q2, q3, q4, q5, q6, q7] none), some (.cells [.int .u64 xv, .bool xh, .int .i64 xo] none), some (.cells [.int .u64 uv, .bool uh, .int .i64 uo] none), some (.cells [.int .u64 0, .int .u64 0, .bool false, .int .i64 0, .bool (vD ls nl qi uv uh uo xv xh xo), .int .i64 (vQ nl qi xv xh xo)] none)] []))
     else False
     else False
     else False
     else False
     else False
     else False)))) := by kernel_rfl
theorem do_e (n i : Nat) (sa sb sc sd se N C wi : Int) (nw nl ns : Nat) (ws ls ss ax : List LV) (K : Pk) : (xsp Go.Proofs.Try.prog cxd 40 141 ((spineL (loopOf (nthC (sp Go.Proofs.Try.prog 16) 2))).drop 3) (mkTm 141 (doT n i)) (mkS (dH sa sb sc sd se N C wi nw nl ns ws ls ss ax)) (vK doL K)) = (
  K .normal [.ptr 0 0, .ptr 2 0, .slo 6 0 n 0, .any, .int .i64 (xar .add .i64 (↑i) 1), .any, .any, .any, .any] [some (.cells [.int .i64 wi, .slo 1 0 nl 0] none), some (.cells ls (some 3)), some (.cells [.int .i64 sa, .int .i64 sb, .int .i64 sc, .int .i64 sd, .int .u64 se, .slo 3 0 nw 0, .slo 4 0 nl 0, .int .u64 N, .slo 5 0 ns 0, .int .i64 C] none), some (.cells ws (some 1)), some (.cells ls (some 3)), some (.cells ss (some 1)), some (.ro ax)] []) := by kernel_rfl
theorem do_z (n i : Nat) (sa sb sc sd se N C wi : Int) (nw nl ns : Nat) (ws ls ss ax : List LV) (K : Pk) : (xsp Go.Proofs.Try.prog cxd 40 141 ((sp Go.Proofs.Try.prog 16).drop 3) (mkTm 141 (doT n i)) (mkS (dH sa sb sc sd se N C wi nw nl ns ws ls ss ax)) (vK doL K)) = (
  bif okIu64 ws nw then
  bif okL ls nl then
  bif okIu64 ss ns then
  bif xeq nl nl then
  bif eqLs ls ls then
  bif xle nl 1000 then
  K .ret [.ptr 0 0, .ptr 2 0, .slo 6 0 n 0, .bool true, .int .i64 ↑i, .any, .any, .any, .any] [some (.cells [.int .i64 wi, .slo 1 0 nl 0] none), some (.cells ls (some 3)), some (.cells [.int .i64 sa, .int .i64 sb, .int .i64 sc, .int .i64 sd, .int .u64 se, .slo 3 0 nw 0, .slo 4 0 nl 0, .int .u64 N, .slo 5 0 ns 0, .int .i64 C] none), some (.cells ws (some 1)), some (.cells ls (some 3)), some (.cells ss (some 1)), some (.ro ax)] []
  else False
  else False
  else False
  else False
  else False
  else False) := by kernel_rfl
end
end Go.Lev
