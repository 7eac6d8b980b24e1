/- WritesWhole (P8.1): for all rows of cells the law returns true; what was there stays as it was. No condition. -/
import Derived.Test.YtdbbgfefllmeaaaCW5
import Derived.Test.YtdbbgfefllmeaaaLc
import Derived.Test.YtdbbgfefllmeaaaChecked
import Derived.KernelRfl

namespace Go.Lev
open Go.RowKit
set_option linter.unusedVariables false
set_option linter.unusedSimpArgs false
set_option maxRecDepth 100000
noncomputable section
def cxw : Cx := cxl [(3, runG), (9, putG), (24, cloneG 2), (15, nearG), (17, takeG), (19, sameG)]
abbrev hL : List Nat := [1, 2, 6, 7, 8, 9, 11, 12, 13, 14, 15]
abbrev hT (na nb k : Nat) : List (Nat × LV) := [(1, .slo 0 0 na 0), (2, .slo 1 0 nb 0), (7, .ptr 2 0), (8, .ptr 4 0), (9, .int .i64 k)]
abbrev hH (ax bx : List LV) (m : Int) (n : Nat) (cs : List LV) : List LB := [.ro ax, .ro bx, .cells [.int .i64 m, .slo 3 0 n 0] none, .cells cs (some 2), .cells [.int .i64 m, .slo 5 0 n 0] none, .cells cs (some 2)]
theorem whole_a (M : Int) (na nb : Nat) (ax bx : List LV) (K : Pk) : (xsp Go.Proofs.Try.prog cxw 40 109 (seg (sp Go.Proofs.Try.prog 6) 0 7) (tm0 [.int .i64 M, .slo 0 0 na 0, .slo 1 0 nb 0]) (mkS [.ro ax, .ro bx]) (vK hL K)) = (
  K .normal [.slo 0 0 na 0, .slo 1 0 nb 0, .bool false, .ptr 2 0, .ptr 3 0, .int .i64 0, .tup [], .tup [], .tup [], .tup [], .tup []] [some (.ro ax), some (.ro bx), some (.cells [.int .i64 (xmn (xmx M 0) 96), .nils] none), some (.cells [.int .i64 (xmn (xmx M 0) 96), .nils] none)] []) := by kernel_rfl
theorem whole_b (m : Int) (na nb n k : Nat) (ax bx cs : List LV) (K : Pk) : (xcode Go.Proofs.Try.prog cxw 40 109 (loopOf (nthC (sp Go.Proofs.Try.prog 6) 7)) (mkTm 109 (hT na nb k)) (mkS (hH ax bx m n cs)) (vK hL K)) = (
  bif xcm .lss ↑k ↑na then (
   bif xcm .lss (↑k) 30 then (
    bif xle (xadd (xnat ↑k) 1) na then
    bif xle (xadd (xix 0 (xnat ↑k) 2) 2) (xln ax) then
    bif isI .i64 (nthD ax (xix 0 (xnat ↑k) 2)) then
    bif isI .u64 (nthD ax (xadd (xix 0 (xnat ↑k) 2) 1)) then
    bif okC cs n then
    bif xle (xadd n 1) 1000000 then
    bif okC cs n then
    bif xle (xadd n 1) 1000000 then
    bif xcm .eql (nearA (asI (nthD ax (xix 0 (xnat ↑k) 2))) ↑k) (nearA (asI (nthD ax (xix 0 (xnat ↑k) 2))) ↑k) then
    bif xcm .eql (nearA (asI (nthD ax (xix 0 (xnat ↑k) 2))) ↑k) (nearA (asI (nthD ax (xix 0 (xnat ↑k) 2))) ↑k) then
    bif xcm .eql (asI (nthD ax (xadd (xix 0 (xnat ↑k) 2) 1))) (asI (nthD ax (xadd (xix 0 (xnat ↑k) 2) 1))) then
    bif xcm .eql (asI (nthD ax (xadd (xix 0 (xnat ↑k) 2) 1))) (asI (nthD ax (xadd (xix 0 (xnat ↑k) 2) 1))) then
    bif xcm .neq (putE m n cs (nearA (asI (nthD ax (xix 0 (xnat ↑k) 2))) ↑k) (asI (nthD ax (xadd (xix 0 (xnat ↑k) 2) 1)))) (putE m n cs (nearA (asI (nthD ax (xix 0 (xnat ↑k) 2))) ↑k) (asI (nthD ax (xadd (xix 0 (xnat ↑k) 2) 1)))) then (
     K .ret [.slo 0 0 na 0, .slo 1 0 nb 0, .bool false, .ptr 2 0, .ptr 4 0, .int .i64 ↑k, .any, .any, .any, .any, .any] [some (.ro ax), some (.ro bx), some (.cells [.int .i64 m, .slo 7 0 (putN m n cs (nearA (asI (nthD ax (xix 0 (xnat ↑k) 2))) ↑k) (asI (nthD ax (xadd (xix 0 (xnat ↑k) 2) 1)))) 0] none), some .dead, some (.cells [.int .i64 m, .slo 8 0 (putN m n cs (nearA (asI (nthD ax (xix 0 (xnat ↑k) 2))) ↑k) (asI (nthD ax (xadd (xix 0 (xnat ↑k) 2) 1)))) 0] none), some .dead, some (.cells [.int .i64 (nearA (asI (nthD ax (xix 0 (xnat ↑k) 2))) ↑k), .int .u64 (asI (nthD ax (xadd (xix 0 (xnat ↑k) 2) 1)))] none), some (.cells (putC m n cs (nearA (asI (nthD ax (xix 0 (xnat ↑k) 2))) ↑k) (asI (nthD ax (xadd (xix 0 (xnat ↑k) 2) 1)))) (some 2)), some (.cells (putC m n cs (nearA (asI (nthD ax (xix 0 (xnat ↑k) 2))) ↑k) (asI (nthD ax (xadd (xix 0 (xnat ↑k) 2) 1)))) (some 2))] [])
    else (
     K .normal [.slo 0 0 na 0, .slo 1 0 nb 0, .any, .ptr 2 0, .ptr 4 0, .int .i64 (xar .add .i64 (↑k) 1), .any, .any, .any, .any, .any] [some (.ro ax), some (.ro bx), some (.cells [.int .i64 m, .slo 7 0 (putN m n cs (nearA (asI (nthD ax (xix 0 (xnat ↑k) 2))) ↑k) (asI (nthD ax (xadd (xix 0 (xnat ↑k) 2) 1)))) 0] none), some .dead, some (.cells [.int .i64 m, .slo 8 0 (putN m n cs (nearA (asI (nthD ax (xix 0 (xnat ↑k) 2))) ↑k) (asI (nthD ax (xadd (xix 0 (xnat ↑k) 2) 1)))) 0] none), some .dead, some (.cells [.int .i64 (nearA (asI (nthD ax (xix 0 (xnat ↑k) 2))) ↑k), .int .u64 (asI (nthD ax (xadd (xix 0 (xnat ↑k) 2) 1)))] none), some (.cells (putC m n cs (nearA (asI (nthD ax (xix 0 (xnat ↑k) 2))) ↑k) (asI (nthD ax (xadd (xix 0 (xnat ↑k) 2) 1)))) (some 2)), some (.cells (putC m n cs (nearA (asI (nthD ax (xix 0 (xnat ↑k) 2))) ↑k) (asI (nthD ax (xadd (xix 0 (xnat ↑k) 2) 1)))) (some 2))] [])
    else False
    else False
    else False
    else False
    else False
    else False
    else False
    else False
    else False
    else False
    else False
    else False)
   else (
    K (.exit 0) [.slo 0 0 na 0, .slo 1 0 nb 0, .any, .ptr 2 0, .ptr 4 0, .int .i64 ↑k, .any, .any, .any, .any, .any] [some (.ro ax), some (.ro bx), some (.cells [.int .i64 m, .slo 3 0 n 0] none), some (.cells cs (some 2)), some (.cells [.int .i64 m, .slo 5 0 n 0] none), some (.cells cs (some 2))] []))
  else (
   K (.exit 0) [.slo 0 0 na 0, .slo 1 0 nb 0, .any, .ptr 2 0, .ptr 4 0, .int .i64 ↑k, .any, .any, .any, .any, .any] [some (.ro ax), some (.ro bx), some (.cells [.int .i64 m, .slo 3 0 n 0] none), some (.cells cs (some 2)), some (.cells [.int .i64 m, .slo 5 0 n 0] none), some (.cells cs (some 2))] [])) := by kernel_rfl
theorem whole_c (m : Int) (na nb n k : Nat) (ax bx cs : List LV) (K : Pk) : (xsp Go.Proofs.Try.prog cxw 40 109 (seg (sp Go.Proofs.Try.prog 6) 8 4) (mkTm 109 (hT na nb k)) (mkS (hH ax bx m n cs)) (vK hL K)) = (
  bif xle n 1000000 then
  bif xeq (xln cs) (xmul n 2) then
  bif xnoid cs then
  K .normal [.slo 0 0 na 0, .slo 1 0 nb 0, .any, .ptr 2 0, .ptr 4 0, .int .i64 ↑k, .slo 6 0 n 0, .nils, .int .i64 0, .int .i64 0, .any] [some (.ro ax), some (.ro bx), some (.cells [.int .i64 m, .slo 3 0 n 0] none), some (.cells cs (some 2)), some (.cells [.int .i64 m, .slo 5 0 n 0] none), some (.cells cs (some 2)), some (.cells cs (some 2))] []
  else False
  else False
  else False) := by kernel_rfl
abbrev jT (nb n k : Nat) (e : Int) : List (Nat × LV) := [(2, .slo 1 0 nb 0), (7, .ptr 2 0), (8, .ptr 4 0), (11, .slo 6 0 n 0), (12, .slo 7 0 k 0), (13, .int .i64 e), (14, .int .i64 k)]
abbrev jH (ax bx : List LV) (m : Int) (n : Nat) (cs : List LV) (n' : Nat) (cs' ls : List LV) : List LB := [.ro ax, .ro bx, .cells [.int .i64 m, .slo 3 0 n 0] none, .cells cs (some 2), .cells [.int .i64 m, .slo 5 0 n' 0] none, .cells cs' (some 2), .cells cs (some 2), .cells ls (some 2)]
theorem whole_d (m e : Int) (nb n n' k : Nat) (ax bx cs cs' ls : List LV) (K : Pk) : (xcode Go.Proofs.Try.prog cxw 40 109 (loopOf (nthC (sp Go.Proofs.Try.prog 6) 12)) (mkTm 109 (jT nb n k e)) (mkS (jH ax bx m n cs n' cs' ls)) (vK hL K)) = (
  bif xcm .lss ↑k ↑nb then (
   bif xcm .lss (↑k) 30 then (
    bif xle (xadd (xnat ↑k) 1) nb then
    bif xle (xadd (xix 0 (xnat ↑k) 2) 2) (xln bx) then
    bif isI .i64 (nthD bx (xix 0 (xnat ↑k) 2)) then
    bif isI .u64 (nthD bx (xadd (xix 0 (xnat ↑k) 2) 1)) then
    bif xle (xadd k 1) 1000000 then
    bif xle (xadd 0 (xmul k 2)) (xln ls) then
    bif xcm .eql e 0 then (
     bif xle (xadd (xnat ↑k) 1) (xadd k 1) then
     bif xle (xadd (xix 0 (xnat ↑k) 2) 1) (xln (xcat (xcut ls 0 (xmul k 2)) [.int .i64 (nearA (asI (nthD bx (xix 0 (xnat ↑k) 2))) ↑k), .int .u64 (asI (nthD bx (xadd (xix 0 (xnat ↑k) 2) 1)))])) then
     bif isI .i64 (nthD (xcat (xcut ls 0 (xmul k 2)) [.int .i64 (nearA (asI (nthD bx (xix 0 (xnat ↑k) 2))) ↑k), .int .u64 (asI (nthD bx (xadd (xix 0 (xnat ↑k) 2) 1)))]) (xix 0 (xnat ↑k) 2)) then
     bif xle (xadd (xnat ↑k) 1) (xadd k 1) then
     bif xle (xadd (xadd (xix 0 (xnat ↑k) 2) 1) 1) (xln (xcat (xcut ls 0 (xmul k 2)) [.int .i64 (nearA (asI (nthD bx (xix 0 (xnat ↑k) 2))) ↑k), .int .u64 (asI (nthD bx (xadd (xix 0 (xnat ↑k) 2) 1)))])) then
     bif isI .u64 (nthD (xcat (xcut ls 0 (xmul k 2)) [.int .i64 (nearA (asI (nthD bx (xix 0 (xnat ↑k) 2))) ↑k), .int .u64 (asI (nthD bx (xadd (xix 0 (xnat ↑k) 2) 1)))]) (xadd (xix 0 (xnat ↑k) 2) 1)) then
     bif okC cs' n' then
     bif xle (xadd n' 1) 1000000 then
     K .normal [.any, .slo 1 0 nb 0, .any, .ptr 2 0, .ptr 4 0, .any, .slo 6 0 n 0, .slo 9 0 (xadd k 1) 0, .int .i64 (putE m n' cs' (asI (nthD (xcat (xcut ls 0 (xmul k 2)) [.int .i64 (nearA (asI (nthD bx (xix 0 (xnat ↑k) 2))) ↑k), .int .u64 (asI (nthD bx (xadd (xix 0 (xnat ↑k) 2) 1)))]) (xix 0 (xnat ↑k) 2))) (asI (nthD (xcat (xcut ls 0 (xmul k 2)) [.int .i64 (nearA (asI (nthD bx (xix 0 (xnat ↑k) 2))) ↑k), .int .u64 (asI (nthD bx (xadd (xix 0 (xnat ↑k) 2) 1)))]) (xadd (xix 0 (xnat ↑k) 2) 1)))), .int .i64 (xar .add .i64 (↑k) 1), .any] [some (.ro ax), some (.ro bx), some (.cells [.int .i64 m, .slo 3 0 n 0] none), some (.cells cs (some 2)), some (.cells [.int .i64 m, .slo 10 0 (putN m n' cs' (asI (nthD (xcat (xcut ls 0 (xmul k 2)) [.int .i64 (nearA (asI (nthD bx (xix 0 (xnat ↑k) 2))) ↑k), .int .u64 (asI (nthD bx (xadd (xix 0 (xnat ↑k) 2) 1)))]) (xix 0 (xnat ↑k) 2))) (asI (nthD (xcat (xcut ls 0 (xmul k 2)) [.int .i64 (nearA (asI (nthD bx (xix 0 (xnat ↑k) 2))) ↑k), .int .u64 (asI (nthD bx (xadd (xix 0 (xnat ↑k) 2) 1)))]) (xadd (xix 0 (xnat ↑k) 2) 1)))) 0] none), some .dead, some (.cells cs (some 2)), some .dead, some (.cells [.int .i64 (nearA (asI (nthD bx (xix 0 (xnat ↑k) 2))) ↑k), .int .u64 (asI (nthD bx (xadd (xix 0 (xnat ↑k) 2) 1)))] none), some (.cells (xcat (xcut ls 0 (xmul k 2)) [.int .i64 (nearA (asI (nthD bx (xix 0 (xnat ↑k) 2))) ↑k), .int .u64 (asI (nthD bx (xadd (xix 0 (xnat ↑k) 2) 1)))]) (some 2)), some (.cells (putC m n' cs' (asI (nthD (xcat (xcut ls 0 (xmul k 2)) [.int .i64 (nearA (asI (nthD bx (xix 0 (xnat ↑k) 2))) ↑k), .int .u64 (asI (nthD bx (xadd (xix 0 (xnat ↑k) 2) 1)))]) (xix 0 (xnat ↑k) 2))) (asI (nthD (xcat (xcut ls 0 (xmul k 2)) [.int .i64 (nearA (asI (nthD bx (xix 0 (xnat ↑k) 2))) ↑k), .int .u64 (asI (nthD bx (xadd (xix 0 (xnat ↑k) 2) 1)))]) (xadd (xix 0 (xnat ↑k) 2) 1)))) (some 2))] []
     else False
     else False
     else False
     else False
     else False
     else False
     else False
     else False)
    else (
     K .normal [.any, .slo 1 0 nb 0, .any, .ptr 2 0, .ptr 4 0, .any, .slo 6 0 n 0, .slo 9 0 (xadd k 1) 0, .int .i64 e, .int .i64 (xar .add .i64 (↑k) 1), .any] [some (.ro ax), some (.ro bx), some (.cells [.int .i64 m, .slo 3 0 n 0] none), some (.cells cs (some 2)), some (.cells [.int .i64 m, .slo 5 0 n' 0] none), some (.cells cs' (some 2)), some (.cells cs (some 2)), some .dead, some (.cells [.int .i64 (nearA (asI (nthD bx (xix 0 (xnat ↑k) 2))) ↑k), .int .u64 (asI (nthD bx (xadd (xix 0 (xnat ↑k) 2) 1)))] none), some (.cells (xcat (xcut ls 0 (xmul k 2)) [.int .i64 (nearA (asI (nthD bx (xix 0 (xnat ↑k) 2))) ↑k), .int .u64 (asI (nthD bx (xadd (xix 0 (xnat ↑k) 2) 1)))]) (some 2))] [])
    else False
    else False
    else False
    else False
    else False
    else False)
   else (
    K (.exit 2) [.any, .slo 1 0 nb 0, .any, .ptr 2 0, .ptr 4 0, .any, .slo 6 0 n 0, .slo 7 0 k 0, .int .i64 e, .int .i64 ↑k, .any] [some (.ro ax), some (.ro bx), some (.cells [.int .i64 m, .slo 3 0 n 0] none), some (.cells cs (some 2)), some (.cells [.int .i64 m, .slo 5 0 n' 0] none), some (.cells cs' (some 2)), some (.cells cs (some 2)), some (.cells ls (some 2))] []))
  else (
   K (.exit 2) [.any, .slo 1 0 nb 0, .any, .ptr 2 0, .ptr 4 0, .any, .slo 6 0 n 0, .slo 7 0 k 0, .int .i64 e, .int .i64 ↑k, .any] [some (.ro ax), some (.ro bx), some (.cells [.int .i64 m, .slo 3 0 n 0] none), some (.cells cs (some 2)), some (.cells [.int .i64 m, .slo 5 0 n' 0] none), some (.cells cs' (some 2)), some (.cells cs (some 2)), some (.cells ls (some 2))] [])) := by kernel_rfl
theorem whole_z (m e : Int) (nb n n' k : Nat) (ax bx cs cs' ls : List LV) (K : Pk) : (xsp Go.Proofs.Try.prog cxw 40 109 ((sp Go.Proofs.Try.prog 6).drop 13) (mkTm 109 (jT nb n k e)) (mkS (jH ax bx m n cs n' cs' ls)) (vK hL K)) = (
  bif okC cs n then
  bif okC ls k then
  bif xle (xadd n 1) 1000000 then
  bif xcm .leq m 1000 then
  bif xcm .neq (takeE m n cs k ls) e then (
   K .ret [.any, .slo 1 0 nb 0, .bool false, .ptr 2 0, .ptr 4 0, .any, .slo 6 0 n 0, .slo 7 0 k 0, .int .i64 e, .int .i64 ↑k, .int .i64 (takeE m n cs k ls)] [some (.ro ax), some (.ro bx), some (.cells [.int .i64 m, .slo 8 0 (takeN m n cs k ls) 0] none), some .dead, some (.cells [.int .i64 m, .slo 5 0 n' 0] none), some (.cells cs' (some 2)), some (.cells cs (some 2)), some (.cells ls (some 2)), some (.cells (takeC m n cs k ls) (some 2))] [])
  else (
   bif xcm .neq (takeE m n cs k ls) 0 then (
    bif xle (takeN m n cs k ls) 1000000 then
    bif xeq (xln (takeC m n cs k ls)) (xmul (takeN m n cs k ls) 2) then
    bif xnoid (takeC m n cs k ls) then
    bif okC (takeC m n cs k ls) (takeN m n cs k ls) then
    bif okC cs n then
    K .ret [.any, .slo 1 0 nb 0, .bool (sameW (takeN m n cs k ls) n (takeC m n cs k ls) cs), .ptr 2 0, .ptr 4 0, .any, .slo 6 0 n 0, .slo 7 0 k 0, .int .i64 e, .int .i64 ↑k, .int .i64 (takeE m n cs k ls)] [some (.ro ax), some (.ro bx), some (.cells [.int .i64 m, .slo 8 0 (takeN m n cs k ls) 0] none), some .dead, some (.cells [.int .i64 m, .slo 5 0 n' 0] none), some (.cells cs' (some 2)), some (.cells cs (some 2)), some (.cells ls (some 2)), some (.cells (takeC m n cs k ls) (some 2)), some (.cells (takeC m n cs k ls) (some 2))] []
    else False
    else False
    else False
    else False
    else False)
   else (
    bif xle (takeN m n cs k ls) 1000000 then
    bif xeq (xln (takeC m n cs k ls)) (xmul (takeN m n cs k ls) 2) then
    bif xnoid (takeC m n cs k ls) then
    bif xle n' 1000000 then
    bif xeq (xln cs') (xmul n' 2) then
    bif xnoid cs' then
    bif okC (takeC m n cs k ls) (takeN m n cs k ls) then
    bif okC cs' n' then
    K .ret [.any, .slo 1 0 nb 0, .bool (sameW (takeN m n cs k ls) n' (takeC m n cs k ls) cs'), .ptr 2 0, .ptr 4 0, .any, .slo 6 0 n 0, .slo 7 0 k 0, .int .i64 e, .int .i64 ↑k, .int .i64 (takeE m n cs k ls)] [some (.ro ax), some (.ro bx), some (.cells [.int .i64 m, .slo 8 0 (takeN m n cs k ls) 0] none), some .dead, some (.cells [.int .i64 m, .slo 5 0 n' 0] none), some (.cells cs' (some 2)), some (.cells cs (some 2)), some (.cells ls (some 2)), some (.cells (takeC m n cs k ls) (some 2)), some (.cells (takeC m n cs k ls) (some 2)), some (.cells cs' (some 2))] []
    else False
    else False
    else False
    else False
    else False
    else False
    else False
    else False))
  else False
  else False
  else False
  else False) := by kernel_rfl
theorem runs8 : isTrue (lrun Go.Proofs.Try.prog 4000 3 []) = true := by kernel_rfl
theorem cxw_ok : CtrOk Go.Proofs.Try.prog (ctrOf cxw) := cxl_ok ⟨runG_ok runs8, putG_ok, cloneCell_ok, nearG_ok, takeG_ok, sameG_ok, trivial⟩
abbrev mm (M : Int) : Int := xmn (xmx M 0) 96
theorem mm_le (M : Int) : mm M ≤ 96 := by simp only [mm, wd_mn, wd_mx]; split <;> omega
structure W1 where
  k : Nat
  n : Nat
  cs : List LV
  ok : okC cs n = true
  le : n ≤ 96
theorem put_le {m : Int} (hm : m ≤ 96) {n : Nat} (h : n ≤ 96) (cs : List LV) (a z : Int) : putN m n cs a z ≤ 96 := by
  rcases putN_le m n cs a z with h1 | ⟨h1, h2⟩ <;> omega
theorem whole_loop1 {M : Int} {na nb : Nat} (hna : na ≤ 9223372036854775807) (ag bg : Nat → Int × Int) (Φ : Pk) (a : W1) : SCode Go.Proofs.Try.prog 109 (nthC (sp Go.Proofs.Try.prog 6) 7) 2 (mkTm 109 (hT na nb a.k)) (mkS (hH (tab cell na ag) (tab cell nb bg) (mm M) a.n a.cs))
    (vK hL (toK (σ := W1) 2 109 hL [] (fun a => hT na nb a.k) (fun a => hH (tab cell na ag) (tab cell nb bg) (mm M) a.n a.cs) Φ)) := by
  refine SCode.loop_vc (cx := cxw) cxw_ok (n := 40) 0 (by kernel_rfl) (σ := W1) (fun a => hT na nb a.k) (fun a => hH (tab cell na ag) (tab cell nb bg) (mm M) a.n a.cs) (fun a => na - a.k) (fun _ => Nat.le_of_ble_eq_true rfl) (fun a => ?_) a
  obtain ⟨k, n, cs, ok, le⟩ := a
  dsimp only
  have n0 := noids_ok ok
  rw [whole_b, wd_lss]
  refine ite_way (fun hk => ?_) (fun hk => ⟨rfl, ⟨k, n, cs, ok, le⟩, [.id 0, .id 1, .id 2, .id 3, .id 4, .id 5], by (exact ⟨by kernel_rfl, by ((repeat refine okTms_cons (by (first | exact lw_any | exact lw_int | exact lw_bool | exact lw_ptr rfl | exact lw_slo rfl | exact lw_nilp | exact lw_nils | exact lw_str | exact lw_slo_nils | exact lw_slo_sle | exact lw_sl rfl | exact lw_unb | exact lw_gptr | exact lw_noid rfl | exact lw_cap rfl (Nat.le_refl _) | exact lw_cap rfl (by omega) | assumption)) ?_); exact okTms_nil), by ((repeat refine okBlks_cons (by (first | exact lb_dead | exact lb_same (by (first | assumption | exact noIds_tab (fun _ => rfl) _ _ | exact noIds_encL (fun _ => rfl) _ | rfl)) | exact lb_ro (by (first | assumption | exact noIds_tab (fun _ => rfl) _ _ | exact noIds_encL (fun _ => rfl) _ | rfl)) | exact lb_none | exact lb_cells (by ((repeat refine lws_cons (by (first | exact lw_any | exact lw_int | exact lw_bool | exact lw_ptr rfl | exact lw_slo rfl | exact lw_nilp | exact lw_nils | exact lw_str | exact lw_slo_nils | exact lw_slo_sle | exact lw_sl rfl | exact lw_unb | exact lw_gptr | exact lw_noid rfl | exact lw_cap rfl (Nat.le_refl _) | exact lw_cap rfl (by omega) | assumption)) ?_); exact lws_nil)) (by simp) | exact lb_iter | exact lb_cap (Nat.le_refl _) (Nat.le_refl _) rfl rfl | assumption)) ?_); exact okBlks_nil)⟩)⟩)
  rw [show (30 : Int) = ((30 : Nat) : Int) from rfl, wd_lss]
  refine ite_way (fun hk8 => ?_) (fun hk8 => ⟨rfl, ⟨k, n, cs, ok, le⟩, [.id 0, .id 1, .id 2, .id 3, .id 4, .id 5], by (exact ⟨by kernel_rfl, by ((repeat refine okTms_cons (by (first | exact lw_any | exact lw_int | exact lw_bool | exact lw_ptr rfl | exact lw_slo rfl | exact lw_nilp | exact lw_nils | exact lw_str | exact lw_slo_nils | exact lw_slo_sle | exact lw_sl rfl | exact lw_unb | exact lw_gptr | exact lw_noid rfl | exact lw_cap rfl (Nat.le_refl _) | exact lw_cap rfl (by omega) | assumption)) ?_); exact okTms_nil), by ((repeat refine okBlks_cons (by (first | exact lb_dead | exact lb_same (by (first | assumption | exact noIds_tab (fun _ => rfl) _ _ | exact noIds_encL (fun _ => rfl) _ | rfl)) | exact lb_ro (by (first | assumption | exact noIds_tab (fun _ => rfl) _ _ | exact noIds_encL (fun _ => rfl) _ | rfl)) | exact lb_none | exact lb_cells (by ((repeat refine lws_cons (by (first | exact lw_any | exact lw_int | exact lw_bool | exact lw_ptr rfl | exact lw_slo rfl | exact lw_nilp | exact lw_nils | exact lw_str | exact lw_slo_nils | exact lw_slo_sle | exact lw_sl rfl | exact lw_unb | exact lw_gptr | exact lw_noid rfl | exact lw_cap rfl (Nat.le_refl _) | exact lw_cap rfl (by omega) | assumption)) ?_); exact lws_nil)) (by simp) | exact lb_iter | exact lb_cap (Nat.le_refl _) (Nat.le_refl _) rfl rfl | assumption)) ?_); exact okBlks_nil)⟩)⟩)
  simp only [wd_nat, wd_ix, wd_add, wd_mul, wd_ln, Nat.zero_add, Nat.mul_one, wd_isI, wd_asI, wd_isB, wd_asB, wd_nn, cI_tlen, cB_tlen, cII_tlen, decide_true, cond_true, wd_not_t, wd_not_f, wd_and_t, wd_and_f, cII_nth0 .i64 .u64 ag hk, cII_nth1 .i64 .u64 ag hk, ok, inc_i64 hk hna]
  (repeat (with_reducible refine must (by (first | with_reducible rfl | exact t_le (by omega) | exact t_eq (by omega) | exact t_nn (by omega) | exact t_lss (by omega) | exact t_leq (by omega) | exact t_gtr (by omega) | exact t_geq (by omega) | exact t_eql (by omega) | exact t_neq (by omega) | exact t_z (by omega) | exact wd_not_f | assumption)) ?_))
  (with_reducible refine way_f (by (first | with_reducible rfl | exact f_le (by omega) | exact f_eq (by omega) | exact f_nn (by omega) | exact f_lss (by omega) | exact f_leq (by omega) | exact f_gtr (by omega) | exact f_geq (by omega) | exact f_eql (by omega) | exact f_neq (by omega) | exact f_z (by omega) | exact wd_not_t | assumption)) ?_)
  have o1 := okC_put (m := mm M) (cs := cs) (nearA (ag k).1 k) (ag k).2 (show n < 1000000 by omega)
  have n1 := noids_ok o1
  refine ⟨rfl, ⟨k + 1, _, _, o1, put_le (mm_le M) le _ _ _⟩, by simp only; omega, [.id 0, .id 1, .id 2, .id 7, .id 4, .id 8], by (exact ⟨by kernel_rfl, by ((repeat refine okTms_cons (by (first | exact lw_any | exact lw_int | exact lw_bool | exact lw_ptr rfl | exact lw_slo rfl | exact lw_nilp | exact lw_nils | exact lw_str | exact lw_slo_nils | exact lw_slo_sle | exact lw_sl rfl | exact lw_unb | exact lw_gptr | exact lw_noid rfl | exact lw_cap rfl (Nat.le_refl _) | exact lw_cap rfl (by omega) | assumption)) ?_); exact okTms_nil), by ((repeat refine okBlks_cons (by (first | exact lb_dead | exact lb_same (by (first | assumption | exact noIds_tab (fun _ => rfl) _ _ | exact noIds_encL (fun _ => rfl) _ | rfl)) | exact lb_ro (by (first | assumption | exact noIds_tab (fun _ => rfl) _ _ | exact noIds_encL (fun _ => rfl) _ | rfl)) | exact lb_none | exact lb_cells (by ((repeat refine lws_cons (by (first | exact lw_any | exact lw_int | exact lw_bool | exact lw_ptr rfl | exact lw_slo rfl | exact lw_nilp | exact lw_nils | exact lw_str | exact lw_slo_nils | exact lw_slo_sle | exact lw_sl rfl | exact lw_unb | exact lw_gptr | exact lw_noid rfl | exact lw_cap rfl (Nat.le_refl _) | exact lw_cap rfl (by omega) | assumption)) ?_); exact lws_nil)) (by simp) | exact lb_iter | exact lb_cap (Nat.le_refl _) (Nat.le_refl _) rfl rfl | assumption)) ?_); exact okBlks_nil)⟩)⟩
abbrev lgf (bg : Nat → Int × Int) : Nat → Int × Int := fun j => (nearA (bg j).1 j, (bg j).2)
structure W2 where
  k : Nat
theorem whole_loop2 {M : Int} {nb n : Nat} {cs : List LV} (ok : okC cs n = true) (hn : n ≤ 96) (hnb : nb ≤ 9223372036854775807) (bg : Nat → Int × Int) (ax : List LV) (hax : noIds ax = true) (Φ : Pk) : SCode Go.Proofs.Try.prog 109 (nthC (sp Go.Proofs.Try.prog 6) 12) 2 (mkTm 109 (jT nb n 0 0)) (mkS (jH ax (tab cell nb bg) (mm M) n cs n cs []))
    (vK hL (toK (σ := {k : Nat // k ≤ nb}) 2 109 hL [] (fun k => jT nb n k.1 (tk (mm M) (lgf bg) n cs k.1).1) (fun k => jH ax (tab cell nb bg) (mm M) n cs (tk (mm M) (lgf bg) n cs k.1).2.1 (tk (mm M) (lgf bg) n cs k.1).2.2 (tab cell k.1 (lgf bg))) Φ)) := by
  refine SCode.loop_vc (cx := cxw) cxw_ok (n := 40) 2 (by kernel_rfl) (σ := {k : Nat // k ≤ nb}) (fun k => jT nb n k.1 (tk (mm M) (lgf bg) n cs k.1).1) (fun k => jH ax (tab cell nb bg) (mm M) n cs (tk (mm M) (lgf bg) n cs k.1).2.1 (tk (mm M) (lgf bg) n cs k.1).2.2 (tab cell k.1 (lgf bg))) (fun k => nb - k.1) (fun _ => Nat.le_of_ble_eq_true rfl) (fun ⟨k, hkn⟩ => ?_) ⟨0, Nat.zero_le _⟩
  dsimp only
  have n0 := noids_ok ok
  obtain ⟨o1, o2⟩ := tk_ok (lg := lgf bg) ok (show n < 1000000 by omega) (show mm M ≤ 1000 by have := mm_le M; omega) k
  have n1 := noids_ok o1
  rw [whole_d, wd_lss]
  refine ite_way (fun hk => ?_) (fun hk => ⟨rfl, ⟨k, hkn⟩, [.id 0, .id 1, .id 2, .id 3, .id 4, .id 5, .id 6, .id 7], by (exact ⟨by kernel_rfl, by ((repeat refine okTms_cons (by (first | exact lw_any | exact lw_int | exact lw_bool | exact lw_ptr rfl | exact lw_slo rfl | exact lw_nilp | exact lw_nils | exact lw_str | exact lw_slo_nils | exact lw_slo_sle | exact lw_sl rfl | exact lw_unb | exact lw_gptr | exact lw_noid rfl | exact lw_cap rfl (Nat.le_refl _) | exact lw_cap rfl (by omega) | assumption)) ?_); exact okTms_nil), by ((repeat refine okBlks_cons (by (first | exact lb_dead | exact lb_same (by (first | assumption | exact noIds_tab (fun _ => rfl) _ _ | exact noIds_encL (fun _ => rfl) _ | rfl)) | exact lb_ro (by (first | assumption | exact noIds_tab (fun _ => rfl) _ _ | exact noIds_encL (fun _ => rfl) _ | rfl)) | exact lb_none | exact lb_cells (by ((repeat refine lws_cons (by (first | exact lw_any | exact lw_int | exact lw_bool | exact lw_ptr rfl | exact lw_slo rfl | exact lw_nilp | exact lw_nils | exact lw_str | exact lw_slo_nils | exact lw_slo_sle | exact lw_sl rfl | exact lw_unb | exact lw_gptr | exact lw_noid rfl | exact lw_cap rfl (Nat.le_refl _) | exact lw_cap rfl (by omega) | assumption)) ?_); exact lws_nil)) (by simp) | exact lb_iter | exact lb_cap (Nat.le_refl _) (Nat.le_refl _) rfl rfl | assumption)) ?_); exact okBlks_nil)⟩)⟩)
  rw [show (30 : Int) = ((30 : Nat) : Int) from rfl, wd_lss]
  refine ite_way (fun hk8 => ?_) (fun hk8 => ⟨rfl, ⟨k, hkn⟩, [.id 0, .id 1, .id 2, .id 3, .id 4, .id 5, .id 6, .id 7], by (exact ⟨by kernel_rfl, by ((repeat refine okTms_cons (by (first | exact lw_any | exact lw_int | exact lw_bool | exact lw_ptr rfl | exact lw_slo rfl | exact lw_nilp | exact lw_nils | exact lw_str | exact lw_slo_nils | exact lw_slo_sle | exact lw_sl rfl | exact lw_unb | exact lw_gptr | exact lw_noid rfl | exact lw_cap rfl (Nat.le_refl _) | exact lw_cap rfl (by omega) | assumption)) ?_); exact okTms_nil), by ((repeat refine okBlks_cons (by (first | exact lb_dead | exact lb_same (by (first | assumption | exact noIds_tab (fun _ => rfl) _ _ | exact noIds_encL (fun _ => rfl) _ | rfl)) | exact lb_ro (by (first | assumption | exact noIds_tab (fun _ => rfl) _ _ | exact noIds_encL (fun _ => rfl) _ | rfl)) | exact lb_none | exact lb_cells (by ((repeat refine lws_cons (by (first | exact lw_any | exact lw_int | exact lw_bool | exact lw_ptr rfl | exact lw_slo rfl | exact lw_nilp | exact lw_nils | exact lw_str | exact lw_slo_nils | exact lw_slo_sle | exact lw_sl rfl | exact lw_unb | exact lw_gptr | exact lw_noid rfl | exact lw_cap rfl (Nat.le_refl _) | exact lw_cap rfl (by omega) | assumption)) ?_); exact lws_nil)) (by simp) | exact lb_iter | exact lb_cap (Nat.le_refl _) (Nat.le_refl _) rfl rfl | assumption)) ?_); exact okBlks_nil)⟩)⟩)
  have ec : tab cell (k + 1) (upd (lgf bg) k (nearA (bg k).1 k, (bg k).2)) = tab cell (k + 1) (lgf bg) := tab_congr fun i _ => by
    simp only [upd]; split
    · rename_i e; subst e; rfl
    · rfl
  simp only [wd_nat, wd_ix, wd_add, wd_mul, wd_ln, Nat.zero_add, Nat.mul_one, wd_isI, wd_asI, wd_isB, wd_asB, wd_nn, cI_tlen, cB_tlen, cII_tlen, decide_true, cond_true, wd_not_t, wd_not_f, wd_and_t, wd_and_f, cII_nth0 .i64 .u64 bg hk, cII_nth1 .i64 .u64 bg hk, cII_push .i64 .u64 k (lgf bg), ec, cII_nth0 .i64 .u64 (lgf bg) (Nat.lt_succ_self k), cII_nth1 .i64 .u64 (lgf bg) (Nat.lt_succ_self k), o1, inc_i64 hk hnb]
  (repeat (with_reducible refine must (by (first | with_reducible rfl | exact t_le (by omega) | exact t_eq (by omega) | exact t_nn (by omega) | exact t_lss (by omega) | exact t_leq (by omega) | exact t_gtr (by omega) | exact t_geq (by omega) | exact t_eql (by omega) | exact t_neq (by omega) | exact t_z (by omega) | exact wd_not_f | assumption)) ?_))
  rw [xcm_eql]
  refine ite_way (fun he => ?_) (fun he => ?_)
  · (repeat (with_reducible refine must (by (first | with_reducible rfl | exact t_le (by omega) | exact t_eq (by omega) | exact t_nn (by omega) | exact t_lss (by omega) | exact t_leq (by omega) | exact t_gtr (by omega) | exact t_geq (by omega) | exact t_eql (by omega) | exact t_neq (by omega) | exact t_z (by omega) | exact wd_not_f | assumption)) ?_))
    have step : tk (mm M) (lgf bg) n cs (k + 1) = (putE (mm M) (tk (mm M) (lgf bg) n cs k).2.1 (tk (mm M) (lgf bg) n cs k).2.2 (lgf bg k).1 (lgf bg k).2, putN (mm M) (tk (mm M) (lgf bg) n cs k).2.1 (tk (mm M) (lgf bg) n cs k).2.2 (lgf bg k).1 (lgf bg k).2, putC (mm M) (tk (mm M) (lgf bg) n cs k).2.1 (tk (mm M) (lgf bg) n cs k).2.2 (lgf bg k).1 (lgf bg k).2) := by rw [tk, if_pos he]
    exact ⟨rfl, ⟨k + 1, hk⟩, by simp only; omega, [.id 0, .id 1, .id 2, .id 3, .id 4, .id 10, .id 6, .id 9], by
      have n2 := noids_ok (okC_put (m := mm M) (cs := (tk (mm M) (lgf bg) n cs k).2.2) (nearA (bg k).1 k) (bg k).2 o2)
      simp only [step]
      (exact ⟨by kernel_rfl, by ((repeat refine okTms_cons (by (first | exact lw_any | exact lw_int | exact lw_bool | exact lw_ptr rfl | exact lw_slo rfl | exact lw_nilp | exact lw_nils | exact lw_str | exact lw_slo_nils | exact lw_slo_sle | exact lw_sl rfl | exact lw_unb | exact lw_gptr | exact lw_noid rfl | exact lw_cap rfl (Nat.le_refl _) | exact lw_cap rfl (by omega) | assumption)) ?_); exact okTms_nil), by ((repeat refine okBlks_cons (by (first | exact lb_dead | exact lb_same (by (first | assumption | exact noIds_tab (fun _ => rfl) _ _ | exact noIds_encL (fun _ => rfl) _ | rfl)) | exact lb_ro (by (first | assumption | exact noIds_tab (fun _ => rfl) _ _ | exact noIds_encL (fun _ => rfl) _ | rfl)) | exact lb_none | exact lb_cells (by ((repeat refine lws_cons (by (first | exact lw_any | exact lw_int | exact lw_bool | exact lw_ptr rfl | exact lw_slo rfl | exact lw_nilp | exact lw_nils | exact lw_str | exact lw_slo_nils | exact lw_slo_sle | exact lw_sl rfl | exact lw_unb | exact lw_gptr | exact lw_noid rfl | exact lw_cap rfl (Nat.le_refl _) | exact lw_cap rfl (by omega) | assumption)) ?_); exact lws_nil)) (by simp) | exact lb_iter | exact lb_cap (Nat.le_refl _) (Nat.le_refl _) rfl rfl | assumption)) ?_); exact okBlks_nil)⟩)⟩
  · have step : tk (mm M) (lgf bg) n cs (k + 1) = tk (mm M) (lgf bg) n cs k := by rw [tk, if_neg he]
    exact ⟨rfl, ⟨k + 1, hk⟩, by simp only; omega, [.id 0, .id 1, .id 2, .id 3, .id 4, .id 5, .id 6, .id 9], by
      simp only [step]
      (exact ⟨by kernel_rfl, by ((repeat refine okTms_cons (by (first | exact lw_any | exact lw_int | exact lw_bool | exact lw_ptr rfl | exact lw_slo rfl | exact lw_nilp | exact lw_nils | exact lw_str | exact lw_slo_nils | exact lw_slo_sle | exact lw_sl rfl | exact lw_unb | exact lw_gptr | exact lw_noid rfl | exact lw_cap rfl (Nat.le_refl _) | exact lw_cap rfl (by omega) | assumption)) ?_); exact okTms_nil), by ((repeat refine okBlks_cons (by (first | exact lb_dead | exact lb_same (by (first | assumption | exact noIds_tab (fun _ => rfl) _ _ | exact noIds_encL (fun _ => rfl) _ | rfl)) | exact lb_ro (by (first | assumption | exact noIds_tab (fun _ => rfl) _ _ | exact noIds_encL (fun _ => rfl) _ | rfl)) | exact lb_none | exact lb_cells (by ((repeat refine lws_cons (by (first | exact lw_any | exact lw_int | exact lw_bool | exact lw_ptr rfl | exact lw_slo rfl | exact lw_nilp | exact lw_nils | exact lw_str | exact lw_slo_nils | exact lw_slo_sle | exact lw_sl rfl | exact lw_unb | exact lw_gptr | exact lw_noid rfl | exact lw_cap rfl (Nat.le_refl _) | exact lw_cap rfl (by omega) | assumption)) ?_); exact lws_nil)) (by simp) | exact lb_iter | exact lb_cap (Nat.le_refl _) (Nat.le_refl _) rfl rfl | assumption)) ?_); exact okBlks_nil)⟩)⟩
theorem decG_tab {n i : Nat} (g : Nat → Int × Int) (h : i < n) : decG (tab cell n g) i = g i := by
  rw [tab, decG_enc (by simpa using h)]; simp
theorem whole_fun (M : Int) {na nb : Nat} (hna : na ≤ 9223372036854775807) (hnb : nb ≤ 9223372036854775807) (ag bg : Nat → Int × Int) :
    SFun Go.Proofs.Try.prog 6 [.int .i64 M, .slo 0 0 na 0, .slo 1 0 nb 0] (mkS [.ro (tab cell na ag), .ro (tab cell nb bg)]) fun l _ => l = .bool true := by
  refine SFun.mono (SFun.pieces (Q := fun l _ => l = .bool true) 109 2 hL [6] (by kernel_rfl) rfl rfl rfl ?_) fun l s' ⟨b0, h1, _⟩ => h1
  refine SSp.to cxw_ok (n := 40) (g := []) 7 7 rfl (σ := W1) (fun a => hT na nb a.k) (fun a => hH (tab cell na ag) (tab cell nb bg) (mm M) a.n a.cs) (mkS_le (Nat.le_refl _)) (by kernel_rfl) ?_ fun a => ?_
  · rw [whole_a]
    exact ⟨rfl, ⟨0, 0, [], okC_tab (n := 0) (fun _ => (0, 0)) (by omega), by omega⟩, [.id 0, .id 1, .id 2, .none, .id 3, .none], by (exact ⟨by kernel_rfl, by ((repeat refine okTms_cons (by (first | exact lw_any | exact lw_int | exact lw_bool | exact lw_ptr rfl | exact lw_slo rfl | exact lw_nilp | exact lw_nils | exact lw_str | exact lw_slo_nils | exact lw_slo_sle | exact lw_sl rfl | exact lw_unb | exact lw_gptr | exact lw_noid rfl | exact lw_cap rfl (Nat.le_refl _) | exact lw_cap rfl (by omega) | assumption)) ?_); exact okTms_nil), by ((repeat refine okBlks_cons (by (first | exact lb_dead | exact lb_same (by (first | assumption | exact noIds_tab (fun _ => rfl) _ _ | exact noIds_encL (fun _ => rfl) _ | rfl)) | exact lb_ro (by (first | assumption | exact noIds_tab (fun _ => rfl) _ _ | exact noIds_encL (fun _ => rfl) _ | rfl)) | exact lb_none | exact lb_cells (by ((repeat refine lws_cons (by (first | exact lw_any | exact lw_int | exact lw_bool | exact lw_ptr rfl | exact lw_slo rfl | exact lw_nilp | exact lw_nils | exact lw_str | exact lw_slo_nils | exact lw_slo_sle | exact lw_sl rfl | exact lw_unb | exact lw_gptr | exact lw_noid rfl | exact lw_cap rfl (Nat.le_refl _) | exact lw_cap rfl (by omega) | assumption)) ?_); exact lws_nil)) (by simp) | exact lb_iter | exact lb_cap (Nat.le_refl _) (Nat.le_refl _) rfl rfl | assumption)) ?_); exact okBlks_nil)⟩)⟩
  refine SSp.code_to (g := []) 8 rfl (σ := W1) (fun a => hT na nb a.k) (fun a => hH (tab cell na ag) (tab cell nb bg) (mm M) a.n a.cs) (by kernel_rfl) (whole_loop1 hna ag bg _ a) fun a => ?_
  obtain ⟨k0, n, cs, ok, le⟩ := a
  dsimp only
  have n0 := noids_ok ok
  refine SSp.to cxw_ok (n := 40) (g := []) 4 12 rfl (σ := Unit) (fun _ => jT nb n 0 0) (fun _ => jH (tab cell na ag) (tab cell nb bg) (mm M) n cs n cs []) (mkS_le (by simp)) (by kernel_rfl) ?_ fun _ => ?_
  · rw [whole_c]
    simp only [wd_nat, wd_ix, wd_add, wd_mul, wd_ln, Nat.zero_add, Nat.mul_one, wd_isI, wd_asI, wd_isB, wd_asB, wd_nn, cI_tlen, cB_tlen, cII_tlen, decide_true, cond_true, wd_not_t, wd_not_f, wd_and_t, wd_and_f, xnoid_ok ok, len_ok ok]
    (repeat (with_reducible refine must (by (first | with_reducible rfl | exact t_le (by omega) | exact t_eq (by omega) | exact t_nn (by omega) | exact t_lss (by omega) | exact t_leq (by omega) | exact t_gtr (by omega) | exact t_geq (by omega) | exact t_eql (by omega) | exact t_neq (by omega) | exact t_z (by omega) | exact wd_not_f | assumption)) ?_))
    exact ⟨rfl, (), [.id 0, .id 1, .id 2, .id 3, .id 4, .id 5, .id 6, .none], by (exact ⟨by kernel_rfl, by ((repeat refine okTms_cons (by (first | exact lw_any | exact lw_int | exact lw_bool | exact lw_ptr rfl | exact lw_slo rfl | exact lw_nilp | exact lw_nils | exact lw_str | exact lw_slo_nils | exact lw_slo_sle | exact lw_sl rfl | exact lw_unb | exact lw_gptr | exact lw_noid rfl | exact lw_cap rfl (Nat.le_refl _) | exact lw_cap rfl (by omega) | assumption)) ?_); exact okTms_nil), by ((repeat refine okBlks_cons (by (first | exact lb_dead | exact lb_same (by (first | assumption | exact noIds_tab (fun _ => rfl) _ _ | exact noIds_encL (fun _ => rfl) _ | rfl)) | exact lb_ro (by (first | assumption | exact noIds_tab (fun _ => rfl) _ _ | exact noIds_encL (fun _ => rfl) _ | rfl)) | exact lb_none | exact lb_cells (by ((repeat refine lws_cons (by (first | exact lw_any | exact lw_int | exact lw_bool | exact lw_ptr rfl | exact lw_slo rfl | exact lw_nilp | exact lw_nils | exact lw_str | exact lw_slo_nils | exact lw_slo_sle | exact lw_sl rfl | exact lw_unb | exact lw_gptr | exact lw_noid rfl | exact lw_cap rfl (Nat.le_refl _) | exact lw_cap rfl (by omega) | assumption)) ?_); exact lws_nil)) (by simp) | exact lb_iter | exact lb_cap (Nat.le_refl _) (Nat.le_refl _) rfl rfl | assumption)) ?_); exact okBlks_nil)⟩)⟩
  refine SSp.code_to (g := []) 13 rfl (σ := {k : Nat // k ≤ nb}) _ _ (by kernel_rfl) (whole_loop2 ok le hnb bg (tab cell na ag) (noIds_cII _ _ _ _) _) fun ⟨k, hk⟩ => ?_
  dsimp only
  have hm := mm_le M
  obtain ⟨o1, o2⟩ := tk_ok (lg := lgf bg) ok (show n < 1000000 by omega) (show mm M ≤ 1000 by omega) k
  refine SSp.last cxw_ok (n := 40) (mkS_le (by simp)) ?_
  rw [whole_z]
  have ek : tk (mm M) (decG (tab cell k (lgf bg))) n cs k = tk (mm M) (lgf bg) n cs k := tk_congr k fun i hi => decG_tab _ hi
  have hE : takeE (mm M) n cs k (tab cell k (lgf bg)) = (tk (mm M) (lgf bg) n cs k).1 := by simp only [takeE, ek]
  have okl := okC_tab (lgf bg) (show k ≤ 9223372036854775807 by omega)
  have n1 := noids_ok o1
  have nl := noIds_cII .i64 .u64 k (lgf bg)
  by_cases hz : (tk (mm M) (lgf bg) n cs k).1 = 0
  · have hN : takeN (mm M) n cs k (tab cell k (lgf bg)) = (tk (mm M) (lgf bg) n cs k).2.1 := by simp only [takeN, ek, hz, if_true]
    have hC : takeC (mm M) n cs k (tab cell k (lgf bg)) = (tk (mm M) (lgf bg) n cs k).2.2 := by simp only [takeC, ek, hz, if_true]
    have hs : sameW (tk (mm M) (lgf bg) n cs k).2.1 (tk (mm M) (lgf bg) n cs k).2.1 (tk (mm M) (lgf bg) n cs k).2.2 (tk (mm M) (lgf bg) n cs k).2.2 = true := by simp only [sameW, decide_eq_true_eq]; exact ⟨trivial, trivial⟩
    simp only [wd_nat, wd_ix, wd_add, wd_mul, wd_ln, Nat.zero_add, Nat.mul_one, wd_isI, wd_asI, wd_isB, wd_asB, wd_nn, cI_tlen, cB_tlen, cII_tlen, decide_true, cond_true, wd_not_t, wd_not_f, wd_and_t, wd_and_f, ok, okl, hE, hN, hC, hz, o1, xnoid_ok o1, len_ok o1, hs]
    (repeat (with_reducible refine must (by (first | with_reducible rfl | exact t_le (by omega) | exact t_eq (by omega) | exact t_nn (by omega) | exact t_lss (by omega) | exact t_leq (by omega) | exact t_gtr (by omega) | exact t_geq (by omega) | exact t_eql (by omega) | exact t_neq (by omega) | exact t_z (by omega) | exact wd_not_f | assumption)) ?_))
    (with_reducible refine way_f (by (first | with_reducible rfl | exact f_le (by omega) | exact f_eq (by omega) | exact f_nn (by omega) | exact f_lss (by omega) | exact f_leq (by omega) | exact f_gtr (by omega) | exact f_geq (by omega) | exact f_eql (by omega) | exact f_neq (by omega) | exact f_z (by omega) | exact wd_not_t | assumption)) ?_)
    (with_reducible refine way_f (by (first | with_reducible rfl | exact f_le (by omega) | exact f_eq (by omega) | exact f_nn (by omega) | exact f_lss (by omega) | exact f_leq (by omega) | exact f_gtr (by omega) | exact f_geq (by omega) | exact f_eql (by omega) | exact f_neq (by omega) | exact f_z (by omega) | exact wd_not_t | assumption)) ?_)
    (repeat (with_reducible refine must (by (first | with_reducible rfl | exact t_le (by omega) | exact t_eq (by omega) | exact t_nn (by omega) | exact t_lss (by omega) | exact t_leq (by omega) | exact t_gtr (by omega) | exact t_geq (by omega) | exact t_eql (by omega) | exact t_neq (by omega) | exact t_z (by omega) | exact wd_not_f | assumption)) ?_))
    exact ⟨trivial, rfl, .bool true, [.ro _, .ro _], [.id 0, .id 1], rfl, by (exact ⟨by kernel_rfl, by ((repeat refine okTms_cons (by (first | exact lw_any | exact lw_int | exact lw_bool | exact lw_ptr rfl | exact lw_slo rfl | exact lw_nilp | exact lw_nils | exact lw_str | exact lw_slo_nils | exact lw_slo_sle | exact lw_sl rfl | exact lw_unb | exact lw_gptr | exact lw_noid rfl | exact lw_cap rfl (Nat.le_refl _) | exact lw_cap rfl (by omega) | assumption)) ?_); exact okTms_nil), by ((repeat refine okBlks_cons (by (first | exact lb_dead | exact lb_same (by (first | assumption | exact noIds_tab (fun _ => rfl) _ _ | exact noIds_encL (fun _ => rfl) _ | rfl)) | exact lb_ro (by (first | assumption | exact noIds_tab (fun _ => rfl) _ _ | exact noIds_encL (fun _ => rfl) _ | rfl)) | exact lb_none | exact lb_cells (by ((repeat refine lws_cons (by (first | exact lw_any | exact lw_int | exact lw_bool | exact lw_ptr rfl | exact lw_slo rfl | exact lw_nilp | exact lw_nils | exact lw_str | exact lw_slo_nils | exact lw_slo_sle | exact lw_sl rfl | exact lw_unb | exact lw_gptr | exact lw_noid rfl | exact lw_cap rfl (Nat.le_refl _) | exact lw_cap rfl (by omega) | assumption)) ?_); exact lws_nil)) (by simp) | exact lb_iter | exact lb_cap (Nat.le_refl _) (Nat.le_refl _) rfl rfl | assumption)) ?_); exact okBlks_nil)⟩)⟩
  · have hN : takeN (mm M) n cs k (tab cell k (lgf bg)) = n := by simp only [takeN, ek, hz, if_false]
    have hC : takeC (mm M) n cs k (tab cell k (lgf bg)) = cs := by simp only [takeC, ek, hz, if_false]
    have hs : sameW n n cs cs = true := by simp only [sameW, decide_eq_true_eq]; exact ⟨trivial, trivial⟩
    simp only [wd_nat, wd_ix, wd_add, wd_mul, wd_ln, Nat.zero_add, Nat.mul_one, wd_isI, wd_asI, wd_isB, wd_asB, wd_nn, cI_tlen, cB_tlen, cII_tlen, decide_true, cond_true, wd_not_t, wd_not_f, wd_and_t, wd_and_f, ok, okl, hE, hN, hC, xnoid_ok ok, len_ok ok, hs]
    (repeat (with_reducible refine must (by (first | with_reducible rfl | exact t_le (by omega) | exact t_eq (by omega) | exact t_nn (by omega) | exact t_lss (by omega) | exact t_leq (by omega) | exact t_gtr (by omega) | exact t_geq (by omega) | exact t_eql (by omega) | exact t_neq (by omega) | exact t_z (by omega) | exact wd_not_f | assumption)) ?_))
    (with_reducible refine way_f (by (first | with_reducible rfl | exact f_le (by omega) | exact f_eq (by omega) | exact f_nn (by omega) | exact f_lss (by omega) | exact f_leq (by omega) | exact f_gtr (by omega) | exact f_geq (by omega) | exact f_eql (by omega) | exact f_neq (by omega) | exact f_z (by omega) | exact wd_not_t | assumption)) ?_)
    refine way_t (t_neq hz) ?_
    (repeat (with_reducible refine must (by (first | with_reducible rfl | exact t_le (by omega) | exact t_eq (by omega) | exact t_nn (by omega) | exact t_lss (by omega) | exact t_leq (by omega) | exact t_gtr (by omega) | exact t_geq (by omega) | exact t_eql (by omega) | exact t_neq (by omega) | exact t_z (by omega) | exact wd_not_f | assumption)) ?_))
    exact ⟨trivial, rfl, .bool true, [.ro _, .ro _], [.id 0, .id 1], rfl, by (exact ⟨by kernel_rfl, by ((repeat refine okTms_cons (by (first | exact lw_any | exact lw_int | exact lw_bool | exact lw_ptr rfl | exact lw_slo rfl | exact lw_nilp | exact lw_nils | exact lw_str | exact lw_slo_nils | exact lw_slo_sle | exact lw_sl rfl | exact lw_unb | exact lw_gptr | exact lw_noid rfl | exact lw_cap rfl (Nat.le_refl _) | exact lw_cap rfl (by omega) | assumption)) ?_); exact okTms_nil), by ((repeat refine okBlks_cons (by (first | exact lb_dead | exact lb_same (by (first | assumption | exact noIds_tab (fun _ => rfl) _ _ | exact noIds_encL (fun _ => rfl) _ | rfl)) | exact lb_ro (by (first | assumption | exact noIds_tab (fun _ => rfl) _ _ | exact noIds_encL (fun _ => rfl) _ | rfl)) | exact lb_none | exact lb_cells (by ((repeat refine lws_cons (by (first | exact lw_any | exact lw_int | exact lw_bool | exact lw_ptr rfl | exact lw_slo rfl | exact lw_nilp | exact lw_nils | exact lw_str | exact lw_slo_nils | exact lw_slo_sle | exact lw_sl rfl | exact lw_unb | exact lw_gptr | exact lw_noid rfl | exact lw_cap rfl (Nat.le_refl _) | exact lw_cap rfl (by omega) | assumption)) ?_); exact lws_nil)) (by simp) | exact lb_iter | exact lb_cap (Nat.le_refl _) (Nat.le_refl _) rfl rfl | assumption)) ?_); exact okBlks_nil)⟩)⟩
end
end Go.Lev
