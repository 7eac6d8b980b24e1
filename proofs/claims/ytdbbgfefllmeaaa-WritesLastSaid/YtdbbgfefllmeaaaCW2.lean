/- WritesLast, part 2 -/
import Derived.Test.YtdbbgfefllmeaaaCW0
import Derived.Test.YtdbbgfefllmeaaaCW1
import Derived.Test.YtdbbgfefllmeaaaLc
import Derived.Test.YtdbbgfefllmeaaaChecked
import Derived.KernelRfl

namespace Go.Lev
open Go.RowKit
set_option linter.unusedVariables false
set_option linter.unusedSimpArgs false
set_option maxRecDepth 100000
noncomputable section
def cx8l : Cx := cxl [(23, findG), (3, runG), (24, cloneG 2)]
abbrev wL : List Nat := [0, 1, 4, 5, 6, 7, 8, 9, 11, 12]
abbrev wT (n0 n1 n k : Nat) : List (Nat × LV) := [(0, .slo 0 0 n0 0), (1, .slo 1 0 n1 0), (5, .ptr 2 0), (6, .ptr 3 0), (7, .ptr 4 0), (8, .slo 6 0 n 0), (9, .int .i64 k)]
abbrev wH (ps ws la ib cs os : List LV) (n : Nat) : List LB := [.ro ps, .ro ws, .cells [.int .i64 96, .slo 5 0 n 0] none, .cells la none, .cells ib none, .cells cs (some 2), .cells os (some 1)]
theorem runs8 : isTrue (lrun Go.Proofs.Try.prog 4000 3 []) = true := by kernel_rfl
theorem cx8l_ok : CtrOk Go.Proofs.Try.prog (ctrOf cx8l) := cxl_ok ⟨findG_ok, runG_ok runs8, cloneCell_ok, trivial⟩
theorem last_b (n0 n1 n k : Nat) (ps ws la ib cs os : List LV) (K : Pk) : (xcode Go.Proofs.Try.prog cx8l 40 102 (loopOf (nthC (sp Go.Proofs.Try.prog 7) 10)) (mkTm 102 (wT n0 n1 n k)) (mkS (wH ps ws la ib cs os n)) (vK wL K)) = (
  bif xcm .lss ↑k ↑n0 then (
   bif xcm .lss ↑k ↑n1 then (
    bif xcm .lss (↑k) 80 then (
     bif xle (xadd (xnat ↑k) 1) n0 then
     bif xle (xadd (xix 0 (xnat ↑k) 1) 1) (xln ps) then
     bif isI .u8 (nthD ps (xix 0 (xnat ↑k) 1)) then
     bif xle (xadd (xnat ↑k) 1) n1 then
     bif xle (xadd (xix 0 (xnat ↑k) 1) 1) (xln ws) then
     bif isI .u64 (nthD ws (xix 0 (xnat ↑k) 1)) then
     bif xcm .lss (xar .add .i64 (xwr .i64 (xar .rem .u8 (asI (nthD ps (xix 0 (xnat ↑k) 1))) 19)) 1) 1 then (
      K .ret [.slo 0 0 n0 0, .slo 1 0 n1 0, .bool false, .ptr 2 0, .ptr 3 0, .ptr 4 0, .slo 6 0 n 0, .int .i64 ↑k, .any, .any] [some (.ro ps), some (.ro ws), some (.cells [.int .i64 96, .slo 5 0 n 0] none), some (.cells la none), some (.cells ib none), some (.cells cs (some 2)), some (.cells os (some 1))] [])
     else (
      bif xcm .geq (xar .add .i64 (xwr .i64 (xar .rem .u8 (asI (nthD ps (xix 0 (xnat ↑k) 1))) 19)) 1) 256 then (
       K .ret [.slo 0 0 n0 0, .slo 1 0 n1 0, .bool false, .ptr 2 0, .ptr 3 0, .ptr 4 0, .slo 6 0 n 0, .int .i64 ↑k, .any, .any] [some (.ro ps), some (.ro ws), some (.cells [.int .i64 96, .slo 5 0 n 0] none), some (.cells la none), some (.cells ib none), some (.cells cs (some 2)), some (.cells os (some 1))] [])
      else (
       bif okC cs n then
       bif xcm .geq (fndW cs (xar .add .i64 (xwr .i64 (xar .rem .u8 (asI (nthD ps (xix 0 (xnat ↑k) 1))) 19)) 1)) 0 then (
        bif xnn (fndW cs (xar .add .i64 (xwr .i64 (xar .rem .u8 (asI (nthD ps (xix 0 (xnat ↑k) 1))) 19)) 1)) then
        bif xle (xadd (xnat (fndW cs (xar .add .i64 (xwr .i64 (xar .rem .u8 (asI (nthD ps (xix 0 (xnat ↑k) 1))) 19)) 1))) 1) n then
        bif xle (xadd (xadd (xix 0 (xnat (fndW cs (xar .add .i64 (xwr .i64 (xar .rem .u8 (asI (nthD ps (xix 0 (xnat ↑k) 1))) 19)) 1))) 2) 1) 1) (xln cs) then
        bif xnn (xar .add .i64 (xwr .i64 (xar .rem .u8 (asI (nthD ps (xix 0 (xnat ↑k) 1))) 19)) 1) then
        bif xle (xadd (xnat (xar .add .i64 (xwr .i64 (xar .rem .u8 (asI (nthD ps (xix 0 (xnat ↑k) 1))) 19)) 1)) 1) 20 then
        bif xle (xadd (xix 0 (xnat (xar .add .i64 (xwr .i64 (xar .rem .u8 (asI (nthD ps (xix 0 (xnat ↑k) 1))) 19)) 1)) 1) 1) (xln ib) then
        bif isB (nthD ib (xix 0 (xnat (xar .add .i64 (xwr .i64 (xar .rem .u8 (asI (nthD ps (xix 0 (xnat ↑k) 1))) 19)) 1)) 1)) then
        bif xnot (asB (nthD ib (xix 0 (xnat (xar .add .i64 (xwr .i64 (xar .rem .u8 (asI (nthD ps (xix 0 (xnat ↑k) 1))) 19)) 1)) 1))) then (
         bif xle (xadd n 1) 1000000 then
         bif xle (xadd 0 (xmul n 1)) (xln os) then
         bif xle (xadd (xnat ↑k) 1) n1 then
         bif xle (xadd (xix 0 (xnat ↑k) 1) 1) (xln ws) then
         bif isI .u64 (nthD ws (xix 0 (xnat ↑k) 1)) then
         bif xnn (xar .add .i64 (xwr .i64 (xar .rem .u8 (asI (nthD ps (xix 0 (xnat ↑k) 1))) 19)) 1) then
         bif xle (xadd (xnat (xar .add .i64 (xwr .i64 (xar .rem .u8 (asI (nthD ps (xix 0 (xnat ↑k) 1))) 19)) 1)) 1) 20 then
         bif xle (xadd (xix 0 (xnat (xar .add .i64 (xwr .i64 (xar .rem .u8 (asI (nthD ps (xix 0 (xnat ↑k) 1))) 19)) 1)) 1) 1) (xln ib) then
         bif xnn (xar .add .i64 (xwr .i64 (xar .rem .u8 (asI (nthD ps (xix 0 (xnat ↑k) 1))) 19)) 1) then
         bif xle (xadd (xnat (xar .add .i64 (xwr .i64 (xar .rem .u8 (asI (nthD ps (xix 0 (xnat ↑k) 1))) 19)) 1)) 1) 20 then
         bif xle (xadd (xix 0 (xnat (xar .add .i64 (xwr .i64 (xar .rem .u8 (asI (nthD ps (xix 0 (xnat ↑k) 1))) 19)) 1)) 1) 1) (xln la) then
         bif xle (xadd (xix 0 (xnat ↑k) 1) 1) (xln ws) then
         bif isI .u64 (nthD ws (xix 0 (xnat ↑k) 1)) then
         bif xcm .eql (asI (nthD ws (xix 0 (xnat ↑k) 1))) (asI (nthD ws (xix 0 (xnat ↑k) 1))) then
         bif xle (xadd (xix 0 (xnat ↑k) 1) 1) (xln ws) then
         bif isI .u64 (nthD ws (xix 0 (xnat ↑k) 1)) then
         bif xcm .eql (asI (nthD ws (xix 0 (xnat ↑k) 1))) (asI (nthD ws (xix 0 (xnat ↑k) 1))) then
         K .normal [.slo 0 0 n0 0, .slo 1 0 n1 0, .any, .ptr 2 0, .ptr 3 0, .ptr 4 0, .slo 8 0 (xadd n 1) 0, .int .i64 (xar .add .i64 (↑k) 1), .any, .any] [some (.ro ps), some (.ro ws), some (.cells [.int .i64 96, .slo 5 0 n 0] none), some (.cells (xlay la (xix 0 (xnat (xar .add .i64 (xwr .i64 (xar .rem .u8 (asI (nthD ps (xix 0 (xnat ↑k) 1))) 19)) 1)) 1) [.int .u64 (asI (nthD ws (xix 0 (xnat ↑k) 1)))]) none), some (.cells (xlay ib (xix 0 (xnat (xar .add .i64 (xwr .i64 (xar .rem .u8 (asI (nthD ps (xix 0 (xnat ↑k) 1))) 19)) 1)) 1) [.bool true]) none), some (.cells (xlay cs (xadd (xix 0 (xnat (fndW cs (xar .add .i64 (xwr .i64 (xar .rem .u8 (asI (nthD ps (xix 0 (xnat ↑k) 1))) 19)) 1))) 2) 1) [.int .u64 (asI (nthD ws (xix 0 (xnat ↑k) 1)))]) (some 2)), some .dead, some (.cells [.int .i64 (xar .add .i64 (xwr .i64 (xar .rem .u8 (asI (nthD ps (xix 0 (xnat ↑k) 1))) 19)) 1)] none), some (.cells (xcat (xcut os 0 (xmul n 1)) [.int .i64 (xar .add .i64 (xwr .i64 (xar .rem .u8 (asI (nthD ps (xix 0 (xnat ↑k) 1))) 19)) 1)]) (some 1))] []
         else False
         else False
         else False
         else False
         else False
         else False
         else False
         else False
         else False
         else False
         else False
         else False
         else False
         else False
         else False
         else False
         else False)
        else (
         bif xle (xadd (xnat ↑k) 1) n1 then
         bif xle (xadd (xix 0 (xnat ↑k) 1) 1) (xln ws) then
         bif isI .u64 (nthD ws (xix 0 (xnat ↑k) 1)) then
         bif xnn (xar .add .i64 (xwr .i64 (xar .rem .u8 (asI (nthD ps (xix 0 (xnat ↑k) 1))) 19)) 1) then
         bif xle (xadd (xnat (xar .add .i64 (xwr .i64 (xar .rem .u8 (asI (nthD ps (xix 0 (xnat ↑k) 1))) 19)) 1)) 1) 20 then
         bif xle (xadd (xix 0 (xnat (xar .add .i64 (xwr .i64 (xar .rem .u8 (asI (nthD ps (xix 0 (xnat ↑k) 1))) 19)) 1)) 1) 1) (xln ib) then
         bif xnn (xar .add .i64 (xwr .i64 (xar .rem .u8 (asI (nthD ps (xix 0 (xnat ↑k) 1))) 19)) 1) then
         bif xle (xadd (xnat (xar .add .i64 (xwr .i64 (xar .rem .u8 (asI (nthD ps (xix 0 (xnat ↑k) 1))) 19)) 1)) 1) 20 then
         bif xle (xadd (xix 0 (xnat (xar .add .i64 (xwr .i64 (xar .rem .u8 (asI (nthD ps (xix 0 (xnat ↑k) 1))) 19)) 1)) 1) 1) (xln la) then
         bif xle (xadd (xix 0 (xnat ↑k) 1) 1) (xln ws) then
         bif isI .u64 (nthD ws (xix 0 (xnat ↑k) 1)) then
         bif xcm .eql (asI (nthD ws (xix 0 (xnat ↑k) 1))) (asI (nthD ws (xix 0 (xnat ↑k) 1))) then
         bif xle (xadd (xix 0 (xnat ↑k) 1) 1) (xln ws) then
         bif isI .u64 (nthD ws (xix 0 (xnat ↑k) 1)) then
         bif xcm .eql (asI (nthD ws (xix 0 (xnat ↑k) 1))) (asI (nthD ws (xix 0 (xnat ↑k) 1))) then
         K .normal [.slo 0 0 n0 0, .slo 1 0 n1 0, .any, .ptr 2 0, .ptr 3 0, .ptr 4 0, .slo 6 0 n 0, .int .i64 (xar .add .i64 (↑k) 1), .any, .any] [some (.ro ps), some (.ro ws), some (.cells [.int .i64 96, .slo 5 0 n 0] none), some (.cells (xlay la (xix 0 (xnat (xar .add .i64 (xwr .i64 (xar .rem .u8 (asI (nthD ps (xix 0 (xnat ↑k) 1))) 19)) 1)) 1) [.int .u64 (asI (nthD ws (xix 0 (xnat ↑k) 1)))]) none), some (.cells (xlay ib (xix 0 (xnat (xar .add .i64 (xwr .i64 (xar .rem .u8 (asI (nthD ps (xix 0 (xnat ↑k) 1))) 19)) 1)) 1) [.bool true]) none), some (.cells (xlay cs (xadd (xix 0 (xnat (fndW cs (xar .add .i64 (xwr .i64 (xar .rem .u8 (asI (nthD ps (xix 0 (xnat ↑k) 1))) 19)) 1))) 2) 1) [.int .u64 (asI (nthD ws (xix 0 (xnat ↑k) 1)))]) (some 2)), some (.cells os (some 1))] []
         else False
         else False
         else False
         else False
         else False
         else False
         else False
         else False
         else False
         else False
         else False
         else False
         else False
         else False
         else False)
        else False
        else False
        else False
        else False
        else False
        else False
        else False)
       else (
        bif xcm .geq (↑n) 96 then (
         K .ret [.slo 0 0 n0 0, .slo 1 0 n1 0, .bool false, .ptr 2 0, .ptr 3 0, .ptr 4 0, .slo 6 0 n 0, .int .i64 ↑k, .any, .any] [some (.ro ps), some (.ro ws), some (.cells [.int .i64 96, .slo 5 0 n 0] none), some (.cells la none), some (.cells ib none), some (.cells cs (some 2)), some (.cells os (some 1))] [])
        else (
         bif xle (xadd n 1) 1000000 then
         bif xle (xadd 0 (xmul n 2)) (xln cs) then
         bif xnn (xar .add .i64 (xwr .i64 (xar .rem .u8 (asI (nthD ps (xix 0 (xnat ↑k) 1))) 19)) 1) then
         bif xle (xadd (xnat (xar .add .i64 (xwr .i64 (xar .rem .u8 (asI (nthD ps (xix 0 (xnat ↑k) 1))) 19)) 1)) 1) 20 then
         bif xle (xadd (xix 0 (xnat (xar .add .i64 (xwr .i64 (xar .rem .u8 (asI (nthD ps (xix 0 (xnat ↑k) 1))) 19)) 1)) 1) 1) (xln ib) then
         bif isB (nthD ib (xix 0 (xnat (xar .add .i64 (xwr .i64 (xar .rem .u8 (asI (nthD ps (xix 0 (xnat ↑k) 1))) 19)) 1)) 1)) then
         bif xnot (asB (nthD ib (xix 0 (xnat (xar .add .i64 (xwr .i64 (xar .rem .u8 (asI (nthD ps (xix 0 (xnat ↑k) 1))) 19)) 1)) 1))) then (
          bif xle (xadd n 1) 1000000 then
          bif xle (xadd 0 (xmul n 1)) (xln os) then
          bif xle (xadd (xnat ↑k) 1) n1 then
          bif xle (xadd (xix 0 (xnat ↑k) 1) 1) (xln ws) then
          bif isI .u64 (nthD ws (xix 0 (xnat ↑k) 1)) then
          bif xnn (xar .add .i64 (xwr .i64 (xar .rem .u8 (asI (nthD ps (xix 0 (xnat ↑k) 1))) 19)) 1) then
          bif xle (xadd (xnat (xar .add .i64 (xwr .i64 (xar .rem .u8 (asI (nthD ps (xix 0 (xnat ↑k) 1))) 19)) 1)) 1) 20 then
          bif xle (xadd (xix 0 (xnat (xar .add .i64 (xwr .i64 (xar .rem .u8 (asI (nthD ps (xix 0 (xnat ↑k) 1))) 19)) 1)) 1) 1) (xln ib) then
          bif xnn (xar .add .i64 (xwr .i64 (xar .rem .u8 (asI (nthD ps (xix 0 (xnat ↑k) 1))) 19)) 1) then
          bif xle (xadd (xnat (xar .add .i64 (xwr .i64 (xar .rem .u8 (asI (nthD ps (xix 0 (xnat ↑k) 1))) 19)) 1)) 1) 20 then
          bif xle (xadd (xix 0 (xnat (xar .add .i64 (xwr .i64 (xar .rem .u8 (asI (nthD ps (xix 0 (xnat ↑k) 1))) 19)) 1)) 1) 1) (xln la) then
          bif xle (xadd (xix 0 (xnat ↑k) 1) 1) (xln ws) then
          bif isI .u64 (nthD ws (xix 0 (xnat ↑k) 1)) then
          bif xcm .eql (asI (nthD ws (xix 0 (xnat ↑k) 1))) (asI (nthD ws (xix 0 (xnat ↑k) 1))) then
          bif xle (xadd (xix 0 (xnat ↑k) 1) 1) (xln ws) then
          bif isI .u64 (nthD ws (xix 0 (xnat ↑k) 1)) then
          bif xcm .eql (asI (nthD ws (xix 0 (xnat ↑k) 1))) (asI (nthD ws (xix 0 (xnat ↑k) 1))) then
          K .normal [.slo 0 0 n0 0, .slo 1 0 n1 0, .any, .ptr 2 0, .ptr 3 0, .ptr 4 0, .slo 10 0 (xadd n 1) 0, .int .i64 (xar .add .i64 (↑k) 1), .any, .any] [some (.ro ps), some (.ro ws), some (.cells [.int .i64 96, .slo 8 0 (xadd n 1) 0] none), some (.cells (xlay la (xix 0 (xnat (xar .add .i64 (xwr .i64 (xar .rem .u8 (asI (nthD ps (xix 0 (xnat ↑k) 1))) 19)) 1)) 1) [.int .u64 (asI (nthD ws (xix 0 (xnat ↑k) 1)))]) none), some (.cells (xlay ib (xix 0 (xnat (xar .add .i64 (xwr .i64 (xar .rem .u8 (asI (nthD ps (xix 0 (xnat ↑k) 1))) 19)) 1)) 1) [.bool true]) none), some .dead, some .dead, some (.cells [.int .i64 (xar .add .i64 (xwr .i64 (xar .rem .u8 (asI (nthD ps (xix 0 (xnat ↑k) 1))) 19)) 1), .int .u64 (asI (nthD ws (xix 0 (xnat ↑k) 1)))] none), some (.cells (xcat (xcut cs 0 (xmul n 2)) [.int .i64 (xar .add .i64 (xwr .i64 (xar .rem .u8 (asI (nthD ps (xix 0 (xnat ↑k) 1))) 19)) 1), .int .u64 (asI (nthD ws (xix 0 (xnat ↑k) 1)))]) (some 2)), some (.cells [.int .i64 (xar .add .i64 (xwr .i64 (xar .rem .u8 (asI (nthD ps (xix 0 (xnat ↑k) 1))) 19)) 1)] none), some (.cells (xcat (xcut os 0 (xmul n 1)) [.int .i64 (xar .add .i64 (xwr .i64 (xar .rem .u8 (asI (nthD ps (xix 0 (xnat ↑k) 1))) 19)) 1)]) (some 1))] []
          else False
          else False
          else False
          else False
          else False
          else False
          else False
          else False
          else False
          else False
          else False
          else False
          else False
          else False
          else False
          else False
          else False)
         else (
          bif xle (xadd (xnat ↑k) 1) n1 then
          bif xle (xadd (xix 0 (xnat ↑k) 1) 1) (xln ws) then
          bif isI .u64 (nthD ws (xix 0 (xnat ↑k) 1)) then
          bif xnn (xar .add .i64 (xwr .i64 (xar .rem .u8 (asI (nthD ps (xix 0 (xnat ↑k) 1))) 19)) 1) then
          bif xle (xadd (xnat (xar .add .i64 (xwr .i64 (xar .rem .u8 (asI (nthD ps (xix 0 (xnat ↑k) 1))) 19)) 1)) 1) 20 then
          bif xle (xadd (xix 0 (xnat (xar .add .i64 (xwr .i64 (xar .rem .u8 (asI (nthD ps (xix 0 (xnat ↑k) 1))) 19)) 1)) 1) 1) (xln ib) then
          bif xnn (xar .add .i64 (xwr .i64 (xar .rem .u8 (asI (nthD ps (xix 0 (xnat ↑k) 1))) 19)) 1) then
          bif xle (xadd (xnat (xar .add .i64 (xwr .i64 (xar .rem .u8 (asI (nthD ps (xix 0 (xnat ↑k) 1))) 19)) 1)) 1) 20 then
          bif xle (xadd (xix 0 (xnat (xar .add .i64 (xwr .i64 (xar .rem .u8 (asI (nthD ps (xix 0 (xnat ↑k) 1))) 19)) 1)) 1) 1) (xln la) then
          bif xle (xadd (xix 0 (xnat ↑k) 1) 1) (xln ws) then
          bif isI .u64 (nthD ws (xix 0 (xnat ↑k) 1)) then
          bif xcm .eql (asI (nthD ws (xix 0 (xnat ↑k) 1))) (asI (nthD ws (xix 0 (xnat ↑k) 1))) then
          bif xle (xadd (xix 0 (xnat ↑k) 1) 1) (xln ws) then
          bif isI .u64 (nthD ws (xix 0 (xnat ↑k) 1)) then
          bif xcm .eql (asI (nthD ws (xix 0 (xnat ↑k) 1))) (asI (nthD ws (xix 0 (xnat ↑k) 1))) then
          K .normal [.slo 0 0 n0 0, .slo 1 0 n1 0, .any, .ptr 2 0, .ptr 3 0, .ptr 4 0, .slo 6 0 n 0, .int .i64 (xar .add .i64 (↑k) 1), .any, .any] [some (.ro ps), some (.ro ws), some (.cells [.int .i64 96, .slo 8 0 (xadd n 1) 0] none), some (.cells (xlay la (xix 0 (xnat (xar .add .i64 (xwr .i64 (xar .rem .u8 (asI (nthD ps (xix 0 (xnat ↑k) 1))) 19)) 1)) 1) [.int .u64 (asI (nthD ws (xix 0 (xnat ↑k) 1)))]) none), some (.cells (xlay ib (xix 0 (xnat (xar .add .i64 (xwr .i64 (xar .rem .u8 (asI (nthD ps (xix 0 (xnat ↑k) 1))) 19)) 1)) 1) [.bool true]) none), some .dead, some (.cells os (some 1)), some (.cells [.int .i64 (xar .add .i64 (xwr .i64 (xar .rem .u8 (asI (nthD ps (xix 0 (xnat ↑k) 1))) 19)) 1), .int .u64 (asI (nthD ws (xix 0 (xnat ↑k) 1)))] none), some (.cells (xcat (xcut cs 0 (xmul n 2)) [.int .i64 (xar .add .i64 (xwr .i64 (xar .rem .u8 (asI (nthD ps (xix 0 (xnat ↑k) 1))) 19)) 1), .int .u64 (asI (nthD ws (xix 0 (xnat ↑k) 1)))]) (some 2))] []
          else False
          else False
          else False
          else False
          else False
          else False
          else False
          else False
          else False
          else False
          else False
          else False
          else False
          else False
          else False)
         else False
         else False
         else False
         else False
         else False
         else False))
       else False))
     else False
     else False
     else False
     else False
     else False
     else False)
    else (
     K (.exit 0) [.slo 0 0 n0 0, .slo 1 0 n1 0, .any, .ptr 2 0, .ptr 3 0, .ptr 4 0, .slo 6 0 n 0, .int .i64 ↑k, .any, .any] [some (.ro ps), some (.ro ws), some (.cells [.int .i64 96, .slo 5 0 n 0] none), some (.cells la none), some (.cells ib none), some (.cells cs (some 2)), some (.cells os (some 1))] []))
   else (
    K (.exit 0) [.slo 0 0 n0 0, .slo 1 0 n1 0, .any, .ptr 2 0, .ptr 3 0, .ptr 4 0, .slo 6 0 n 0, .int .i64 ↑k, .any, .any] [some (.ro ps), some (.ro ws), some (.cells [.int .i64 96, .slo 5 0 n 0] none), some (.cells la none), some (.cells ib none), some (.cells cs (some 2)), some (.cells os (some 1))] []))
  else (
   K (.exit 0) [.slo 0 0 n0 0, .slo 1 0 n1 0, .any, .ptr 2 0, .ptr 3 0, .ptr 4 0, .slo 6 0 n 0, .int .i64 ↑k, .any, .any] [some (.ro ps), some (.ro ws), some (.cells [.int .i64 96, .slo 5 0 n 0] none), some (.cells la none), some (.cells ib none), some (.cells cs (some 2)), some (.cells os (some 1))] [])) := by kernel_rfl
theorem last_a (n0 n1 : Nat) (ps ws : List LV) (K : Pk) : (xsp Go.Proofs.Try.prog cx8l 40 102 (seg (sp Go.Proofs.Try.prog 7) 0 10) (tm0 [.slo 0 0 n0 0, .slo 1 0 n1 0]) (mkS [.ro ps, .ro ws]) (vK wL K)) = (
  K .normal [.slo 0 0 n0 0, .slo 1 0 n1 0, .bool false, .ptr 2 0, .ptr 3 0, .ptr 4 0, .nils, .int .i64 0, .tup [], .tup []] [some (.ro ps), some (.ro ws), some (.cells [.int .i64 96, .nils] none), some (.cells [.int .u64 0, .int .u64 0, .int .u64 0, .int .u64 0, .int .u64 0, .int .u64 0, .int .u64 0, .int .u64 0, .int .u64 0, .int .u64 0, .int .u64 0, .int .u64 0, .int .u64 0, .int .u64 0, .int .u64 0, .int .u64 0, .int .u64 0, .int .u64 0, .int .u64 0, .int .u64 0] none), some (.cells [.bool false, .bool false, .bool false, .bool false, .bool false, .bool false, .bool false, .bool false, .bool false, .bool false, .bool false, .bool false, .bool false, .bool false, .bool false, .bool false, .bool false, .bool false, .bool false, .bool false] none)] []) := by kernel_rfl
structure WI (n0 n1 k n : Nat) (g : Nat → Int × Int) (last : Nat → Int) (inn : Nat → Bool) : Prop where
  h0 : k ≤ n0
  h1 : k ≤ n1
  h8 : k ≤ 80
  hn : n ≤ k
  pl : ∀ i, i < n → 1 ≤ (g i).1 ∧ (g i).1 ≤ 19
  ds : ∀ i j, i < n → j < n → (g i).1 = (g j).1 → i = j
  mem : ∀ p : Nat, p < 20 → (inn p = true ↔ ∃ i, i < n ∧ (g i).1 = p)
  la : ∀ i, i < n → last (g i).1.toNat = (g i).2
structure WSt (n0 n1 : Nat) where
  k : Nat
  n : Nat
  g : Nat → Int × Int
  last : Nat → Int
  inn : Nat → Bool
  h : WI n0 n1 k n g last inn
abbrev fst1 (g : Nat → Int × Int) : Nat → Int := fun i => (g i).1
abbrev WSt.T {n0 n1 : Nat} (a : WSt n0 n1) : List (Nat × LV) := wT n0 n1 a.n a.k
abbrev WSt.H {n0 n1 : Nat} (ps ws : List LV) (a : WSt n0 n1) : List LB := wH ps ws (tab (cI .u64) 20 a.last) (tab cB 20 a.inn) (tab cell a.n a.g) (tab (cI .i64) a.n (fst1 a.g)) a.n
theorem last_loop {n0 n1 : Nat} (hn0 : n0 ≤ 9223372036854775807) (hn1 : n1 ≤ 9223372036854775807) (pf wf : Nat → Int) (hp : ∀ i, i < n0 → 0 ≤ pf i ∧ pf i ≤ 255) (Φ : Pk) (a : WSt n0 n1) : SCode Go.Proofs.Try.prog 102 (nthC (sp Go.Proofs.Try.prog 7) 10) 2 (mkTm 102 a.T) (mkS (a.H (tab (cI .u8) n0 pf) (tab (cI .u64) n1 wf)))
    (vK wL (toK 2 102 wL [] (WSt.T (n0 := n0) (n1 := n1)) (WSt.H (tab (cI .u8) n0 pf) (tab (cI .u64) n1 wf)) Φ)) := by
  refine SCode.loop_vc (cx := cx8l) cx8l_ok (n := 40) 0 (by kernel_rfl) WSt.T (WSt.H (tab (cI .u8) n0 pf) (tab (cI .u64) n1 wf)) (fun a => n0 - a.k) (fun k => Nat.le_of_ble_eq_true rfl) (fun a => ?_) a
  obtain ⟨k, n, g, last, inn, hW⟩ := a
  dsimp only [WSt.T, WSt.H]
  rw [last_b]
  have exit : toK 2 102 wL [] (WSt.T (n0 := n0) (n1 := n1)) (WSt.H (tab (cI .u8) n0 pf) (tab (cI .u64) n1 wf)) Φ .normal [.slo 0 0 n0 0, .slo 1 0 n1 0, .any, .ptr 2 0, .ptr 3 0, .ptr 4 0, .slo 6 0 n 0, .int .i64 ↑k] [some (.ro (tab (cI .u8) n0 pf)), some (.ro (tab (cI .u64) n1 wf)), some (.cells [.int .i64 96, .slo 5 0 n 0] none), some (.cells (tab (cI .u64) 20 last) none), some (.cells (tab cB 20 inn) none), some (.cells (tab cell n g) (some 2)), some (.cells (tab (cI .i64) n (fst1 g)) (some 1))] [] :=
    ⟨rfl, ⟨k, n, g, last, inn, hW⟩, [.id 0, .id 1, .id 2, .id 3, .id 4, .id 5, .id 6], by (exact ⟨by kernel_rfl, by ((repeat refine okTms_cons (by (first | exact lw_any | exact lw_int | exact lw_bool | exact lw_ptr rfl | exact lw_slo rfl | exact lw_nilp | exact lw_nils | exact lw_str | exact lw_slo_nils | exact lw_slo_sle | exact lw_sl rfl | exact lw_unb | exact lw_gptr | exact lw_noid rfl | exact lw_cap rfl (Nat.le_refl _) | exact lw_cap rfl (by omega) | assumption)) ?_); exact okTms_nil), by ((repeat refine okBlks_cons (by (first | exact lb_dead | exact lb_same (by (first | assumption | exact noIds_tab (fun _ => rfl) _ _ | exact noIds_encL (fun _ => rfl) _ | rfl)) | exact lb_ro (by (first | assumption | exact noIds_tab (fun _ => rfl) _ _ | exact noIds_encL (fun _ => rfl) _ | rfl)) | exact lb_none | exact lb_cells (by ((repeat refine lws_cons (by (first | exact lw_any | exact lw_int | exact lw_bool | exact lw_ptr rfl | exact lw_slo rfl | exact lw_nilp | exact lw_nils | exact lw_str | exact lw_slo_nils | exact lw_slo_sle | exact lw_sl rfl | exact lw_unb | exact lw_gptr | exact lw_noid rfl | exact lw_cap rfl (Nat.le_refl _) | exact lw_cap rfl (by omega) | assumption)) ?_); exact lws_nil)) (by simp) | exact lb_iter | exact lb_cap (Nat.le_refl _) (Nat.le_refl _) rfl rfl | assumption)) ?_); exact okBlks_nil)⟩)⟩
  rw [wd_lss, wd_lss]
  refine ite_way (fun h0 => ite_way (fun h1 => ?_) (fun _ => exit)) (fun _ => exit)
  rw [show (80 : Int) = ((80 : Nat) : Int) from rfl, wd_lss]
  refine ite_way (fun h8 => ?_) (fun _ => exit)
  obtain ⟨q0, q1⟩ := hp k h0
  obtain ⟨p, hp1, hp2, ep⟩ : ∃ p : Nat, 1 ≤ p ∧ p < 20 ∧ xar .add .i64 (xwr .i64 (xar .rem .u8 (pf k) 19)) 1 = (p : Int) := by
    refine ⟨((pf k).tmod 19 + 1).toNat, ?_⟩
    have e : (pf k).tmod 19 = pf k % 19 := Int.tmod_eq_emod_of_nonneg q0
    rw [xar_rem _ _ _ (by omega), wr_i64 (by omega) (by omega), add_i64 (by omega) (by omega)]
    omega
  have hmk : n ≤ 80 := by have := hW.hn; omega
  simp only [wd_nat, wd_ix, wd_add, wd_mul, wd_ln, Nat.zero_add, Nat.mul_one, wd_isI, wd_asI, wd_isB, wd_asB, wd_nn, cI_tlen, cB_tlen, cII_tlen, decide_true, cond_true, wd_not_t, wd_not_f, wd_and_t, wd_and_f, cI_nth .u8 pf h0, cI_nth .u64 wf h1, ep, cB_nth inn hp2, okC_tab g (show n ≤ 9223372036854775807 by omega), fndW_tab]
  (repeat (with_reducible refine must (by (first | with_reducible rfl | exact t_le (by omega) | exact t_eq (by omega) | exact t_nn (by omega) | exact t_lss (by omega) | exact t_leq (by omega) | exact t_gtr (by omega) | exact t_geq (by omega) | exact t_eql (by omega) | exact t_neq (by omega) | exact t_z (by omega) | exact wd_not_f | assumption)) ?_))
  (with_reducible refine way_f (by (first | with_reducible rfl | exact f_le (by omega) | exact f_eq (by omega) | exact f_nn (by omega) | exact f_lss (by omega) | exact f_leq (by omega) | exact f_gtr (by omega) | exact f_geq (by omega) | exact f_eql (by omega) | exact f_neq (by omega) | exact f_z (by omega) | exact wd_not_t | assumption)) ?_)
  (with_reducible refine way_f (by (first | with_reducible rfl | exact f_le (by omega) | exact f_eq (by omega) | exact f_nn (by omega) | exact f_lss (by omega) | exact f_leq (by omega) | exact f_gtr (by omega) | exact f_geq (by omega) | exact f_eql (by omega) | exact f_neq (by omega) | exact f_z (by omega) | exact wd_not_t | assumption)) ?_)
  have hpz : (p : Int).toNat = p := by omega
  rcases fndT_cases n g p with ⟨i, hi, hie, hif, hf⟩ | ⟨hno, hf⟩
  · have hin : inn p = true := (hW.mem p hp2).2 ⟨i, hi, hie⟩
    simp only [wd_nat, wd_ix, wd_add, wd_mul, wd_ln, Nat.zero_add, Nat.mul_one, wd_isI, wd_asI, wd_isB, wd_asB, wd_nn, cI_tlen, cB_tlen, cII_tlen, decide_true, cond_true, wd_not_t, wd_not_f, wd_and_t, wd_and_f, hf, hin, cII_set1 .i64 .u64 g (wf k) hi, cI_set .u64 last (wf k) hp2, cB_set inn true hp2, inc_i64 h0 hn0]
    (with_reducible refine way_t (by (first | with_reducible rfl | exact t_le (by omega) | exact t_eq (by omega) | exact t_nn (by omega) | exact t_lss (by omega) | exact t_leq (by omega) | exact t_gtr (by omega) | exact t_geq (by omega) | exact t_eql (by omega) | exact t_neq (by omega) | exact t_z (by omega) | exact wd_not_f | assumption)) ?_)
    (repeat (with_reducible refine must (by (first | with_reducible rfl | exact t_le (by omega) | exact t_eq (by omega) | exact t_nn (by omega) | exact t_lss (by omega) | exact t_leq (by omega) | exact t_gtr (by omega) | exact t_geq (by omega) | exact t_eql (by omega) | exact t_neq (by omega) | exact t_z (by omega) | exact wd_not_f | assumption)) ?_))
    (with_reducible refine way_f (by (first | with_reducible rfl | exact f_le (by omega) | exact f_eq (by omega) | exact f_nn (by omega) | exact f_lss (by omega) | exact f_leq (by omega) | exact f_gtr (by omega) | exact f_geq (by omega) | exact f_eql (by omega) | exact f_neq (by omega) | exact f_z (by omega) | exact wd_not_t | assumption)) ?_)
    (repeat (with_reducible refine must (by (first | with_reducible rfl | exact t_le (by omega) | exact t_eq (by omega) | exact t_nn (by omega) | exact t_lss (by omega) | exact t_leq (by omega) | exact t_gtr (by omega) | exact t_geq (by omega) | exact t_eql (by omega) | exact t_neq (by omega) | exact t_z (by omega) | exact wd_not_f | assumption)) ?_))
    have eos : tab (cI .i64) n (fst1 g) = tab (cI .i64) n (fst1 (upd g i ((g i).1, wf k))) := tab_congr fun j _ => (upd_fst g i (wf k) j).symm
    rw [eos]
    refine ⟨rfl, ⟨k + 1, n, upd g i ((g i).1, wf k), upd last p (wf k), upd inn p true, ?_⟩, by simp only; omega, [.id 0, .id 1, .id 2, .id 3, .id 4, .id 5, .id 6], by (exact ⟨by kernel_rfl, by ((repeat refine okTms_cons (by (first | exact lw_any | exact lw_int | exact lw_bool | exact lw_ptr rfl | exact lw_slo rfl | exact lw_nilp | exact lw_nils | exact lw_str | exact lw_slo_nils | exact lw_slo_sle | exact lw_sl rfl | exact lw_unb | exact lw_gptr | exact lw_noid rfl | exact lw_cap rfl (Nat.le_refl _) | exact lw_cap rfl (by omega) | assumption)) ?_); exact okTms_nil), by ((repeat refine okBlks_cons (by (first | exact lb_dead | exact lb_same (by (first | assumption | exact noIds_tab (fun _ => rfl) _ _ | exact noIds_encL (fun _ => rfl) _ | rfl)) | exact lb_ro (by (first | assumption | exact noIds_tab (fun _ => rfl) _ _ | exact noIds_encL (fun _ => rfl) _ | rfl)) | exact lb_none | exact lb_cells (by ((repeat refine lws_cons (by (first | exact lw_any | exact lw_int | exact lw_bool | exact lw_ptr rfl | exact lw_slo rfl | exact lw_nilp | exact lw_nils | exact lw_str | exact lw_slo_nils | exact lw_slo_sle | exact lw_sl rfl | exact lw_unb | exact lw_gptr | exact lw_noid rfl | exact lw_cap rfl (Nat.le_refl _) | exact lw_cap rfl (by omega) | assumption)) ?_); exact lws_nil)) (by simp) | exact lb_iter | exact lb_cap (Nat.le_refl _) (Nat.le_refl _) rfl rfl | assumption)) ?_); exact okBlks_nil)⟩)⟩
    have hu := upd_fst g i (wf k)
    refine ⟨h0, h1, h8, by have := hW.hn; omega, fun j hj => by rw [hu]; exact hW.pl j hj, fun a b ha hb e => hW.ds a b ha hb (by rwa [hu, hu] at e), fun q hq => ?_, fun j hj => ?_⟩
    · by_cases e : q = p
      · subst e; rw [upd_same]; exact ⟨fun _ => ⟨i, hi, by rw [hu]; exact hie⟩, fun _ => rfl⟩
      · rw [upd_ne _ _ e, hW.mem q hq]
        exact ⟨fun ⟨a, h1, h2⟩ => ⟨a, h1, by rw [hu]; exact h2⟩, fun ⟨a, h1, h2⟩ => ⟨a, h1, by rw [hu] at h2; exact h2⟩⟩
    · rw [hu]
      by_cases e : j = i
      · subst e; rw [upd_same, hie, hpz, upd_same]
      · rw [upd_ne _ _ e]
        have : (g j).1.toNat ≠ p := fun e2 => e (hW.ds j i hj hi (by have := (hW.pl j hj).1; omega))
        rw [upd_ne _ _ this]; exact hW.la j hj
  · have hin : inn p = false := by
      cases h : inn p with
      | false => rfl
      | true => obtain ⟨j, h1, h2⟩ := (hW.mem p hp2).1 h; exact absurd h2 (hno j h1)
    simp only [wd_nat, wd_ix, wd_add, wd_mul, wd_ln, Nat.zero_add, Nat.mul_one, wd_isI, wd_asI, wd_isB, wd_asB, wd_nn, cI_tlen, cB_tlen, cII_tlen, decide_true, cond_true, wd_not_t, wd_not_f, wd_and_t, wd_and_f, hf, hin, cII_push .i64 .u64 n g p (wf k), cI_push .i64 n (fst1 g) p, cI_set .u64 last (wf k) hp2, cB_set inn true hp2, inc_i64 h0 hn0]
    (with_reducible refine way_f (by (first | with_reducible rfl | exact f_le (by omega) | exact f_eq (by omega) | exact f_nn (by omega) | exact f_lss (by omega) | exact f_leq (by omega) | exact f_gtr (by omega) | exact f_geq (by omega) | exact f_eql (by omega) | exact f_neq (by omega) | exact f_z (by omega) | exact wd_not_t | assumption)) ?_)
    (with_reducible refine way_f (by (first | with_reducible rfl | exact f_le (by omega) | exact f_eq (by omega) | exact f_nn (by omega) | exact f_lss (by omega) | exact f_leq (by omega) | exact f_gtr (by omega) | exact f_geq (by omega) | exact f_eql (by omega) | exact f_neq (by omega) | exact f_z (by omega) | exact wd_not_t | assumption)) ?_)
    (repeat (with_reducible refine must (by (first | with_reducible rfl | exact t_le (by omega) | exact t_eq (by omega) | exact t_nn (by omega) | exact t_lss (by omega) | exact t_leq (by omega) | exact t_gtr (by omega) | exact t_geq (by omega) | exact t_eql (by omega) | exact t_neq (by omega) | exact t_z (by omega) | exact wd_not_f | assumption)) ?_))
    have eos : tab (cI .i64) (n + 1) (upd (fst1 g) n p) = tab (cI .i64) (n + 1) (fst1 (upd g n (p, wf k))) := tab_congr fun j _ => by
      show _ = (upd g n (↑p, wf k) j).1
      simp only [upd]; split <;> rfl
    rw [eos]
    refine ⟨rfl, ⟨k + 1, n + 1, upd g n (p, wf k), upd last p (wf k), upd inn p true, ?_⟩, by simp only; omega, [.id 0, .id 1, .id 2, .id 3, .id 4, .id 8, .id 10], by (exact ⟨by kernel_rfl, by ((repeat refine okTms_cons (by (first | exact lw_any | exact lw_int | exact lw_bool | exact lw_ptr rfl | exact lw_slo rfl | exact lw_nilp | exact lw_nils | exact lw_str | exact lw_slo_nils | exact lw_slo_sle | exact lw_sl rfl | exact lw_unb | exact lw_gptr | exact lw_noid rfl | exact lw_cap rfl (Nat.le_refl _) | exact lw_cap rfl (by omega) | assumption)) ?_); exact okTms_nil), by ((repeat refine okBlks_cons (by (first | exact lb_dead | exact lb_same (by (first | assumption | exact noIds_tab (fun _ => rfl) _ _ | exact noIds_encL (fun _ => rfl) _ | rfl)) | exact lb_ro (by (first | assumption | exact noIds_tab (fun _ => rfl) _ _ | exact noIds_encL (fun _ => rfl) _ | rfl)) | exact lb_none | exact lb_cells (by ((repeat refine lws_cons (by (first | exact lw_any | exact lw_int | exact lw_bool | exact lw_ptr rfl | exact lw_slo rfl | exact lw_nilp | exact lw_nils | exact lw_str | exact lw_slo_nils | exact lw_slo_sle | exact lw_sl rfl | exact lw_unb | exact lw_gptr | exact lw_noid rfl | exact lw_cap rfl (Nat.le_refl _) | exact lw_cap rfl (by omega) | assumption)) ?_); exact lws_nil)) (by simp) | exact lb_iter | exact lb_cap (Nat.le_refl _) (Nat.le_refl _) rfl rfl | assumption)) ?_); exact okBlks_nil)⟩)⟩
    have hu : ∀ j, j < n → upd g n (p, wf k) j = g j := fun j hj => upd_ne _ _ (by omega)
    have hun : upd g n (p, wf k) n = (↑p, wf k) := upd_same _ _ _
    refine ⟨h0, h1, h8, by have := hW.hn; omega, fun j hj => ?_, fun a b ha hb e => ?_, fun q hq => ?_, fun j hj => ?_⟩
    · rcases Nat.lt_succ_iff_lt_or_eq.1 hj with hj | rfl
      · rw [hu j hj]; exact hW.pl j hj
      · rw [hun]; simp only; omega
    · rcases Nat.lt_succ_iff_lt_or_eq.1 ha with ha | rfl <;> rcases Nat.lt_succ_iff_lt_or_eq.1 hb with hb | rfl
      · rw [hu a ha, hu b hb] at e; exact hW.ds a b ha hb e
      · rw [hu a ha, hun] at e; exact absurd e (hno a ha)
      · rw [hu b hb, hun] at e; exact absurd e.symm (hno b hb)
      · rfl
    · by_cases e : q = p
      · subst e; rw [upd_same]; exact ⟨fun _ => ⟨n, Nat.lt_succ_self n, by rw [hun]⟩, fun _ => rfl⟩
      · rw [upd_ne _ _ e, hW.mem q hq]
        refine ⟨fun ⟨a, h1, h2⟩ => ⟨a, by omega, by rw [hu a h1]; exact h2⟩, fun ⟨a, h1, h2⟩ => ?_⟩
        rcases Nat.lt_succ_iff_lt_or_eq.1 h1 with ha | rfl
        · exact ⟨a, ha, by rwa [hu a ha] at h2⟩
        · rw [hun] at h2; simp only at h2; omega
    · rcases Nat.lt_succ_iff_lt_or_eq.1 hj with hj | rfl
      · rw [hu j hj]
        have : (g j).1.toNat ≠ p := fun e2 => hno j hj (by have := (hW.pl j hj).1; omega)
        rw [upd_ne _ _ this]; exact hW.la j hj
      · rw [hun]; simp only [hpz, upd_same]
theorem last_m (n0 n1 n k : Nat) (ps ws la ib cs os : List LV) (K : Pk) : (xsp Go.Proofs.Try.prog cx8l 40 102 (seg (sp Go.Proofs.Try.prog 7) 11 4) (mkTm 102 (wT n0 n1 n k)) (mkS (wH ps ws la ib cs os n)) (vK wL K)) = (
  bif xle n 1000000 then
  bif xeq (xln cs) (xmul n 2) then
  bif xnoid cs then
  bif xcm .neq ↑n ↑n then (
   K .ret [.slo 0 0 n0 0, .slo 1 0 n1 0, .bool false, .ptr 2 0, .ptr 3 0, .ptr 4 0, .slo 6 0 n 0, .int .i64 ↑k, .slo 7 0 n 0, .any] [some (.ro ps), some (.ro ws), some (.cells [.int .i64 96, .slo 5 0 n 0] none), some (.cells la none), some (.cells ib none), some (.cells cs (some 2)), some (.cells os (some 1)), some (.cells cs (some 2))] [])
  else (
   K .normal [.slo 0 0 n0 0, .slo 1 0 n1 0, .any, .ptr 2 0, .ptr 3 0, .ptr 4 0, .slo 6 0 n 0, .int .i64 ↑k, .slo 7 0 n 0, .int .i64 0] [some (.ro ps), some (.ro ws), some (.cells [.int .i64 96, .slo 5 0 n 0] none), some (.cells la none), some (.cells ib none), some (.cells cs (some 2)), some (.cells os (some 1)), some (.cells cs (some 2))] [])
  else False
  else False
  else False) := by kernel_rfl
abbrev eT (n k : Nat) : List (Nat × LV) := [(6, .ptr 3 0), (8, .slo 6 0 n 0), (11, .slo 7 0 n 0), (12, .int .i64 k)]
abbrev eH (ps ws la ib cs os : List LV) (n : Nat) : List LB := [.ro ps, .ro ws, .cells [.int .i64 96, .slo 5 0 n 0] none, .cells la none, .cells ib none, .cells cs (some 2), .cells os (some 1), .cells cs (some 2)]
theorem last_c (n k : Nat) (ps ws la ib cs os : List LV) (K : Pk) : (xcode Go.Proofs.Try.prog cx8l 40 102 (loopOf (nthC (sp Go.Proofs.Try.prog 7) 15)) (mkTm 102 (eT n k)) (mkS (eH ps ws la ib cs os n)) (vK wL K)) = (
  bif xcm .lss ↑k ↑n then (
   bif xle (xadd (xnat ↑k) 1) n then
   bif xle (xadd (xix 0 (xnat ↑k) 2) 1) (xln cs) then
   bif isI .i64 (nthD cs (xix 0 (xnat ↑k) 2)) then
   bif xle (xadd (xnat ↑k) 1) n then
   bif xle (xadd (xix 0 (xnat ↑k) 1) 1) (xln os) then
   bif isI .i64 (nthD os (xix 0 (xnat ↑k) 1)) then
   bif xcm .neq (asI (nthD cs (xix 0 (xnat ↑k) 2))) (asI (nthD os (xix 0 (xnat ↑k) 1))) then (
    K .ret [.any, .any, .bool false, .any, .ptr 3 0, .any, .slo 6 0 n 0, .any, .slo 7 0 n 0, .int .i64 ↑k] [some (.ro ps), some (.ro ws), some (.cells [.int .i64 96, .slo 5 0 n 0] none), some (.cells la none), some (.cells ib none), some (.cells cs (some 2)), some (.cells os (some 1)), some (.cells cs (some 2))] [])
   else (
    bif xle (xadd (xnat ↑k) 1) n then
    bif xle (xadd (xadd (xix 0 (xnat ↑k) 2) 1) 1) (xln cs) then
    bif isI .u64 (nthD cs (xadd (xix 0 (xnat ↑k) 2) 1)) then
    bif xle (xadd (xnat ↑k) 1) n then
    bif xle (xadd (xix 0 (xnat ↑k) 1) 1) (xln os) then
    bif isI .i64 (nthD os (xix 0 (xnat ↑k) 1)) then
    bif xnn (asI (nthD os (xix 0 (xnat ↑k) 1))) then
    bif xle (xadd (xnat (asI (nthD os (xix 0 (xnat ↑k) 1)))) 1) 20 then
    bif xle (xadd (xix 0 (xnat (asI (nthD os (xix 0 (xnat ↑k) 1)))) 1) 1) (xln la) then
    bif isI .u64 (nthD la (xix 0 (xnat (asI (nthD os (xix 0 (xnat ↑k) 1)))) 1)) then
    bif xcm .neq (asI (nthD cs (xadd (xix 0 (xnat ↑k) 2) 1))) (asI (nthD la (xix 0 (xnat (asI (nthD os (xix 0 (xnat ↑k) 1)))) 1))) then (
     K .ret [.any, .any, .bool false, .any, .ptr 3 0, .any, .slo 6 0 n 0, .any, .slo 7 0 n 0, .int .i64 ↑k] [some (.ro ps), some (.ro ws), some (.cells [.int .i64 96, .slo 5 0 n 0] none), some (.cells la none), some (.cells ib none), some (.cells cs (some 2)), some (.cells os (some 1)), some (.cells cs (some 2))] [])
    else (
     K .normal [.any, .any, .any, .any, .ptr 3 0, .any, .slo 6 0 n 0, .any, .slo 7 0 n 0, .int .i64 (xar .add .i64 (↑k) 1)] [some (.ro ps), some (.ro ws), some (.cells [.int .i64 96, .slo 5 0 n 0] none), some (.cells la none), some (.cells ib none), some (.cells cs (some 2)), some (.cells os (some 1)), some (.cells cs (some 2))] [])
    else False
    else False
    else False
    else False
    else False
    else False
    else False
    else False
    else False
    else False)
   else False
   else False
   else False
   else False
   else False
   else False)
  else (
   K (.exit 2) [.any, .any, .any, .any, .ptr 3 0, .any, .slo 6 0 n 0, .any, .slo 7 0 n 0, .int .i64 ↑k] [some (.ro ps), some (.ro ws), some (.cells [.int .i64 96, .slo 5 0 n 0] none), some (.cells la none), some (.cells ib none), some (.cells cs (some 2)), some (.cells os (some 1)), some (.cells cs (some 2))] [])) := by kernel_rfl
theorem last_z (ps ws : List LV) (K : Pk) : (xsp Go.Proofs.Try.prog cx8l 40 102 ((sp Go.Proofs.Try.prog 7).drop 16) (mkTm 102 []) (mkS [.ro ps, .ro ws]) (vK wL K)) = (
  K .ret [.any, .any, .bool true, .any, .any, .any, .any, .any, .any, .any] [some (.ro ps), some (.ro ws)] []) := by kernel_rfl
theorem last_loop2 {n0 n1 n k0 : Nat} (g : Nat → Int × Int) (last : Nat → Int) (inn : Nat → Bool) (hW : WI n0 n1 k0 n g last inn) (ps ws : List LV) (hps : noIds ps = true) (hws : noIds ws = true) (Q : LV → List LB → Prop) :
    SCode Go.Proofs.Try.prog 102 (nthC (sp Go.Proofs.Try.prog 7) 15) 2 (mkTm 102 (eT n 0)) (mkS (eH ps ws (tab (cI .u64) 20 last) (tab cB 20 inn) (tab cell n g) (tab (cI .i64) n (fst1 g)) n))
    (vK wL (toK (σ := Unit) 2 102 wL [] (fun _ => []) (fun _ => [.ro ps, .ro ws]) (endK 2 [4] wL [] Q))) := by
  refine SCode.loop_vc (cx := cx8l) cx8l_ok (n := 40) 2 (by kernel_rfl) (σ := Nat) (fun k => eT n k) (fun _ => eH ps ws (tab (cI .u64) 20 last) (tab cB 20 inn) (tab cell n g) (tab (cI .i64) n (fst1 g)) n) (fun k => n - k) (fun k => Nat.le_of_ble_eq_true rfl) (fun k => ?_) 0
  rw [last_c, wd_lss]
  have hm : n ≤ 1000000 := by have := hW.hn; have := hW.h8; omega
  refine ite_way (fun hk => ?_) (fun hk => ⟨rfl, (), [.id 0, .id 1], by (exact ⟨by kernel_rfl, by ((repeat refine okTms_cons (by (first | exact lw_any | exact lw_int | exact lw_bool | exact lw_ptr rfl | exact lw_slo rfl | exact lw_nilp | exact lw_nils | exact lw_str | exact lw_slo_nils | exact lw_slo_sle | exact lw_sl rfl | exact lw_unb | exact lw_gptr | exact lw_noid rfl | exact lw_cap rfl (Nat.le_refl _) | exact lw_cap rfl (by omega) | assumption)) ?_); exact okTms_nil), by ((repeat refine okBlks_cons (by (first | exact lb_dead | exact lb_same (by (first | assumption | exact noIds_tab (fun _ => rfl) _ _ | exact noIds_encL (fun _ => rfl) _ | rfl)) | exact lb_ro (by (first | assumption | exact noIds_tab (fun _ => rfl) _ _ | exact noIds_encL (fun _ => rfl) _ | rfl)) | exact lb_none | exact lb_cells (by ((repeat refine lws_cons (by (first | exact lw_any | exact lw_int | exact lw_bool | exact lw_ptr rfl | exact lw_slo rfl | exact lw_nilp | exact lw_nils | exact lw_str | exact lw_slo_nils | exact lw_slo_sle | exact lw_sl rfl | exact lw_unb | exact lw_gptr | exact lw_noid rfl | exact lw_cap rfl (Nat.le_refl _) | exact lw_cap rfl (by omega) | assumption)) ?_); exact lws_nil)) (by simp) | exact lb_iter | exact lb_cap (Nat.le_refl _) (Nat.le_refl _) rfl rfl | assumption)) ?_); exact okBlks_nil)⟩)⟩)
  obtain ⟨p1, p2⟩ := hW.pl k hk
  have hp : (g k).1.toNat < 20 := by omega
  have h0 : 0 ≤ (g k).1 := by omega
  simp only [wd_nat, wd_ix, wd_add, wd_mul, wd_ln, Nat.zero_add, Nat.mul_one, wd_isI, wd_asI, wd_isB, wd_asB, wd_nn, cI_tlen, cB_tlen, cII_tlen, decide_true, cond_true, wd_not_t, wd_not_f, wd_and_t, wd_and_f, cI_nth .i64 (fst1 g) hk, cII_nth0 .i64 .u64 g hk, cII_nth1 .i64 .u64 g hk, show fst1 g k = (g k).1 from rfl, show xnat (g k).1 = (g k).1.toNat from rfl, cI_nth .u64 last hp, hW.la k hk, inc_i64 hk (show n ≤ 9223372036854775807 by omega)]
  (repeat (with_reducible refine must (by (first | with_reducible rfl | exact t_le (by omega) | exact t_eq (by omega) | exact t_nn (by omega) | exact t_lss (by omega) | exact t_leq (by omega) | exact t_gtr (by omega) | exact t_geq (by omega) | exact t_eql (by omega) | exact t_neq (by omega) | exact t_z (by omega) | exact wd_not_f | assumption)) ?_))
  (with_reducible refine way_f (by (first | with_reducible rfl | exact f_le (by omega) | exact f_eq (by omega) | exact f_nn (by omega) | exact f_lss (by omega) | exact f_leq (by omega) | exact f_gtr (by omega) | exact f_geq (by omega) | exact f_eql (by omega) | exact f_neq (by omega) | exact f_z (by omega) | exact wd_not_t | assumption)) ?_)
  (repeat (with_reducible refine must (by (first | with_reducible rfl | exact t_le (by omega) | exact t_eq (by omega) | exact t_nn (by omega) | exact t_lss (by omega) | exact t_leq (by omega) | exact t_gtr (by omega) | exact t_geq (by omega) | exact t_eql (by omega) | exact t_neq (by omega) | exact t_z (by omega) | exact wd_not_f | assumption)) ?_))
  (with_reducible refine way_f (by (first | with_reducible rfl | exact f_le (by omega) | exact f_eq (by omega) | exact f_nn (by omega) | exact f_lss (by omega) | exact f_leq (by omega) | exact f_gtr (by omega) | exact f_geq (by omega) | exact f_eql (by omega) | exact f_neq (by omega) | exact f_z (by omega) | exact wd_not_t | assumption)) ?_)
  exact ⟨rfl, k + 1, by simp only; omega, [.id 0, .id 1, .id 2, .id 3, .id 4, .id 5, .id 6, .id 7], by (exact ⟨by kernel_rfl, by ((repeat refine okTms_cons (by (first | exact lw_any | exact lw_int | exact lw_bool | exact lw_ptr rfl | exact lw_slo rfl | exact lw_nilp | exact lw_nils | exact lw_str | exact lw_slo_nils | exact lw_slo_sle | exact lw_sl rfl | exact lw_unb | exact lw_gptr | exact lw_noid rfl | exact lw_cap rfl (Nat.le_refl _) | exact lw_cap rfl (by omega) | assumption)) ?_); exact okTms_nil), by ((repeat refine okBlks_cons (by (first | exact lb_dead | exact lb_same (by (first | assumption | exact noIds_tab (fun _ => rfl) _ _ | exact noIds_encL (fun _ => rfl) _ | rfl)) | exact lb_ro (by (first | assumption | exact noIds_tab (fun _ => rfl) _ _ | exact noIds_encL (fun _ => rfl) _ | rfl)) | exact lb_none | exact lb_cells (by ((repeat refine lws_cons (by (first | exact lw_any | exact lw_int | exact lw_bool | exact lw_ptr rfl | exact lw_slo rfl | exact lw_nilp | exact lw_nils | exact lw_str | exact lw_slo_nils | exact lw_slo_sle | exact lw_sl rfl | exact lw_unb | exact lw_gptr | exact lw_noid rfl | exact lw_cap rfl (Nat.le_refl _) | exact lw_cap rfl (by omega) | assumption)) ?_); exact lws_nil)) (by simp) | exact lb_iter | exact lb_cap (Nat.le_refl _) (Nat.le_refl _) rfl rfl | assumption)) ?_); exact okBlks_nil)⟩)⟩
theorem last_fun {n0 n1 : Nat} (hn0 : n0 ≤ 9223372036854775807) (hn1 : n1 ≤ 9223372036854775807) (pf wf : Nat → Int) (hp : ∀ i, i < n0 → 0 ≤ pf i ∧ pf i ≤ 255) :
    SFun Go.Proofs.Try.prog 7 [.slo 0 0 n0 0, .slo 1 0 n1 0] (mkS [.ro (tab (cI .u8) n0 pf), .ro (tab (cI .u64) n1 wf)]) fun l _ => l = .bool true := by
  refine SFun.mono (SFun.pieces (Q := fun l _ => l = .bool true) 102 2 wL [4] (by kernel_rfl) rfl rfl rfl ?_) fun l s' ⟨b0, h1, _⟩ => h1
  refine SSp.to cx8l_ok (n := 40) (g := []) 10 10 rfl (WSt.T (n0 := n0) (n1 := n1)) (WSt.H (tab (cI .u8) n0 pf) (tab (cI .u64) n1 wf)) (mkS_le (Nat.le_refl _)) (by kernel_rfl) ?_ fun a => ?_
  · rw [last_a]
    refine ⟨rfl, ⟨0, 0, fun _ => (0, 0), fun _ => 0, fun _ => false, ⟨Nat.zero_le _, Nat.zero_le _, by omega, by omega, fun i h => absurd h (by omega), fun i j h => absurd h (by omega), fun p _ => ⟨fun h => (by cases h), fun ⟨i, h, _⟩ => absurd h (by omega)⟩, fun i h => absurd h (by omega)⟩⟩, [.id 0, .id 1, .id 2, .id 3, .id 4, .none, .none], ?_⟩
    (exact ⟨by kernel_rfl, by ((repeat refine okTms_cons (by (first | exact lw_any | exact lw_int | exact lw_bool | exact lw_ptr rfl | exact lw_slo rfl | exact lw_nilp | exact lw_nils | exact lw_str | exact lw_slo_nils | exact lw_slo_sle | exact lw_sl rfl | exact lw_unb | exact lw_gptr | exact lw_noid rfl | exact lw_cap rfl (Nat.le_refl _) | exact lw_cap rfl (by omega) | assumption)) ?_); exact okTms_nil), by ((repeat refine okBlks_cons (by (first | exact lb_dead | exact lb_same (by (first | assumption | exact noIds_tab (fun _ => rfl) _ _ | exact noIds_encL (fun _ => rfl) _ | rfl)) | exact lb_ro (by (first | assumption | exact noIds_tab (fun _ => rfl) _ _ | exact noIds_encL (fun _ => rfl) _ | rfl)) | exact lb_none | exact lb_cells (by ((repeat refine lws_cons (by (first | exact lw_any | exact lw_int | exact lw_bool | exact lw_ptr rfl | exact lw_slo rfl | exact lw_nilp | exact lw_nils | exact lw_str | exact lw_slo_nils | exact lw_slo_sle | exact lw_sl rfl | exact lw_unb | exact lw_gptr | exact lw_noid rfl | exact lw_cap rfl (Nat.le_refl _) | exact lw_cap rfl (by omega) | assumption)) ?_); exact lws_nil)) (by simp) | exact lb_iter | exact lb_cap (Nat.le_refl _) (Nat.le_refl _) rfl rfl | assumption)) ?_); exact okBlks_nil)⟩)
  refine SSp.code_to (g := []) 11 rfl (WSt.T (n0 := n0) (n1 := n1)) (WSt.H (tab (cI .u8) n0 pf) (tab (cI .u64) n1 wf)) (by kernel_rfl) (last_loop hn0 hn1 pf wf hp _ a) fun a => ?_
  obtain ⟨k, n, g, last, inn, hW⟩ := a
  dsimp only [WSt.T, WSt.H]
  have hm : n ≤ 1000000 := by have := hW.hn; have := hW.h8; omega
  refine SSp.to cx8l_ok (n := 40) (g := []) 4 15 rfl (σ := Unit) (fun _ => eT n 0) (fun _ => eH (tab (cI .u8) n0 pf) (tab (cI .u64) n1 wf) (tab (cI .u64) 20 last) (tab cB 20 inn) (tab cell n g) (tab (cI .i64) n (fst1 g)) n) (mkS_le (by simp)) (by kernel_rfl) ?_ fun _ => ?_
  · rw [last_m]
    simp only [wd_nat, wd_ix, wd_add, wd_mul, wd_ln, Nat.zero_add, Nat.mul_one, wd_isI, wd_asI, wd_isB, wd_asB, wd_nn, cI_tlen, cB_tlen, cII_tlen, decide_true, cond_true, wd_not_t, wd_not_f, wd_and_t, wd_and_f, xnoid_cII .i64 .u64 n g]
    (repeat (with_reducible refine must (by (first | with_reducible rfl | exact t_le (by omega) | exact t_eq (by omega) | exact t_nn (by omega) | exact t_lss (by omega) | exact t_leq (by omega) | exact t_gtr (by omega) | exact t_geq (by omega) | exact t_eql (by omega) | exact t_neq (by omega) | exact t_z (by omega) | exact wd_not_f | assumption)) ?_))
    (with_reducible refine way_f (by (first | with_reducible rfl | exact f_le (by omega) | exact f_eq (by omega) | exact f_nn (by omega) | exact f_lss (by omega) | exact f_leq (by omega) | exact f_gtr (by omega) | exact f_geq (by omega) | exact f_eql (by omega) | exact f_neq (by omega) | exact f_z (by omega) | exact wd_not_t | assumption)) ?_)
    exact ⟨rfl, (), [.id 0, .id 1, .id 2, .id 3, .id 4, .id 5, .id 6, .id 7], by (exact ⟨by kernel_rfl, by ((repeat refine okTms_cons (by (first | exact lw_any | exact lw_int | exact lw_bool | exact lw_ptr rfl | exact lw_slo rfl | exact lw_nilp | exact lw_nils | exact lw_str | exact lw_slo_nils | exact lw_slo_sle | exact lw_sl rfl | exact lw_unb | exact lw_gptr | exact lw_noid rfl | exact lw_cap rfl (Nat.le_refl _) | exact lw_cap rfl (by omega) | assumption)) ?_); exact okTms_nil), by ((repeat refine okBlks_cons (by (first | exact lb_dead | exact lb_same (by (first | assumption | exact noIds_tab (fun _ => rfl) _ _ | exact noIds_encL (fun _ => rfl) _ | rfl)) | exact lb_ro (by (first | assumption | exact noIds_tab (fun _ => rfl) _ _ | exact noIds_encL (fun _ => rfl) _ | rfl)) | exact lb_none | exact lb_cells (by ((repeat refine lws_cons (by (first | exact lw_any | exact lw_int | exact lw_bool | exact lw_ptr rfl | exact lw_slo rfl | exact lw_nilp | exact lw_nils | exact lw_str | exact lw_slo_nils | exact lw_slo_sle | exact lw_sl rfl | exact lw_unb | exact lw_gptr | exact lw_noid rfl | exact lw_cap rfl (Nat.le_refl _) | exact lw_cap rfl (by omega) | assumption)) ?_); exact lws_nil)) (by simp) | exact lb_iter | exact lb_cap (Nat.le_refl _) (Nat.le_refl _) rfl rfl | assumption)) ?_); exact okBlks_nil)⟩)⟩
  refine SSp.code_to (g := []) 16 rfl (σ := Unit) (fun _ => []) (fun _ => [.ro (tab (cI .u8) n0 pf), .ro (tab (cI .u64) n1 wf)]) (by kernel_rfl) (last_loop2 g last inn hW _ _ (noIds_cI _ _ _) (noIds_cI _ _ _) _) fun _ => ?_
  refine SSp.last cx8l_ok (n := 40) (mkS_le (Nat.le_refl _)) ?_
  rw [last_z]
  exact ⟨trivial, rfl, .bool true, [.ro _, .ro _], [.id 0, .id 1], rfl, by (exact ⟨by kernel_rfl, by ((repeat refine okTms_cons (by (first | exact lw_any | exact lw_int | exact lw_bool | exact lw_ptr rfl | exact lw_slo rfl | exact lw_nilp | exact lw_nils | exact lw_str | exact lw_slo_nils | exact lw_slo_sle | exact lw_sl rfl | exact lw_unb | exact lw_gptr | exact lw_noid rfl | exact lw_cap rfl (Nat.le_refl _) | exact lw_cap rfl (by omega) | assumption)) ?_); exact okTms_nil), by ((repeat refine okBlks_cons (by (first | exact lb_dead | exact lb_same (by (first | assumption | exact noIds_tab (fun _ => rfl) _ _ | exact noIds_encL (fun _ => rfl) _ | rfl)) | exact lb_ro (by (first | assumption | exact noIds_tab (fun _ => rfl) _ _ | exact noIds_encL (fun _ => rfl) _ | rfl)) | exact lb_none | exact lb_cells (by ((repeat refine lws_cons (by (first | exact lw_any | exact lw_int | exact lw_bool | exact lw_ptr rfl | exact lw_slo rfl | exact lw_nilp | exact lw_nils | exact lw_str | exact lw_slo_nils | exact lw_slo_sle | exact lw_sl rfl | exact lw_unb | exact lw_gptr | exact lw_noid rfl | exact lw_cap rfl (Nat.le_refl _) | exact lw_cap rfl (by omega) | assumption)) ?_); exact lws_nil)) (by simp) | exact lb_iter | exact lb_cap (Nat.le_refl _) (Nat.le_refl _) rfl rfl | assumption)) ?_); exact okBlks_nil)⟩)⟩
end
end Go.Lev
