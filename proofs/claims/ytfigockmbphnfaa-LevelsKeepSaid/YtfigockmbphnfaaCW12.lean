/- flat asks at one level that has something: words, trees, contract -/
import Derived.Test.YtfigockmbphnfaaCW9
import Derived.Test.YtfigockmbphnfaaLc
import Derived.Test.YtfigockmbphnfaaChecked
import Derived.KernelRfl

namespace Go.Lev
open Go.RowKit
set_option linter.unusedVariables false
set_option linter.unusedSimpArgs false
set_option maxRecDepth 100000
noncomputable section
/-! the asks one by one, from what was there -/
def fgS (ax : List LV) (s0 : (Nat × List LV) × Nat × List LV) : Nat → (Nat × List LV) × Nat × List LV
  | 0 => s0
  | i + 1 =>
    if xar .and .i64 (asI (nthD ax (i * 4))) 3 = 3 then ((fgS ax s0 i).1, (fgS ax s0 i).2.1 + 1, xcat (xcut (fgS ax s0 i).2.2 0 (fgS ax s0 i).2.1) [.int .i64 (asI (nthD ax (i * 4 + 1)))])
    else ((tk1N 96 (fgS ax s0 i).1.1 (fgS ax s0 i).1.2 (wthV (asI (nthD ax (i * 4 + 1))) 1 20) (asI (nthD ax (i * 4 + 2))), tk1C 96 (fgS ax s0 i).1.1 (fgS ax s0 i).1.2 (wthV (asI (nthD ax (i * 4 + 1))) 1 20) (asI (nthD ax (i * 4 + 2)))), (fgS ax s0 i).2)
theorem fgs_ok (ax : List LV) {n0 fn0 : Nat} {cs0 fs0 : List LV} (p0 : okC cs0 n0 = true) (q0 : okFr fs0 fn0 = true) (r0 : n0 ≤ 48) (r1 : fn0 ≤ 48) : ∀ i, i ≤ 12 → okC (fgS ax ((n0, cs0), fn0, fs0) i).1.2 (fgS ax ((n0, cs0), fn0, fs0) i).1.1 = true ∧ (fgS ax ((n0, cs0), fn0, fs0) i).1.1 ≤ n0 + i ∧ okFr (fgS ax ((n0, cs0), fn0, fs0) i).2.2 (fgS ax ((n0, cs0), fn0, fs0) i).2.1 = true ∧ (fgS ax ((n0, cs0), fn0, fs0) i).2.1 ≤ fn0 + i
  | 0, _ => ⟨p0, Nat.le_refl _, q0, Nat.le_refl _⟩
  | i + 1, hi => by
    obtain ⟨h1, h2, h3, h4⟩ := fgs_ok ax p0 q0 r0 r1 i (by omega)
    rw [fgS]; split
    · exact ⟨h1, by simp only; omega, okFr_push _ h3 (by omega), by simp only; omega⟩
    · refine ⟨okC_tk1 _ _ h1 (by omega), ?_, h3, by simp only; omega⟩
      have := tk1N_le 96 (fgS ax ((n0, cs0), fn0, fs0) i).1.1 (fgS ax ((n0, cs0), fn0, fs0) i).1.2 (wthV (asI (nthD ax (i * 4 + 1))) 1 20) (asI (nthD ax (i * 4 + 2)))
      simp only; omega
def fgN (ax : List LV) (nx n0 fn0 : Nat) (cs0 fs0 : List LV) : Nat := (fgS ax ((n0, cs0), fn0, fs0) (min nx 12)).1.1

def fgC (ax : List LV) (nx n0 fn0 : Nat) (cs0 fs0 : List LV) : List LV := (fgS ax ((n0, cs0), fn0, fs0) (min nx 12)).1.2

def fgM (ax : List LV) (nx n0 fn0 : Nat) (cs0 fs0 : List LV) : Nat := (fgS ax ((n0, cs0), fn0, fs0) (min nx 12)).2.1

def fgR (ax : List LV) (nx n0 fn0 : Nat) (cs0 fs0 : List LV) : List LV := (fgS ax ((n0, cs0), fn0, fs0) (min nx 12)).2.2

section
variable (ax : List LV) (nx : Nat) {n0 fn0 : Nat} {cs0 fs0 : List LV} (p0 : okC cs0 n0 = true) (q0 : okFr fs0 fn0 = true) (r0 : n0 ≤ 48) (r1 : fn0 ≤ 48)
include p0 q0 r0 r1
theorem fg_okC : okC (fgC ax nx n0 fn0 cs0 fs0) (fgN ax nx n0 fn0 cs0 fs0) = true := (fgs_ok ax p0 q0 r0 r1 _ (Nat.min_le_right _ _)).1
theorem fg_le : fgN ax nx n0 fn0 cs0 fs0 ≤ n0 + 12 := Nat.le_trans (fgs_ok ax p0 q0 r0 r1 _ (Nat.min_le_right _ _)).2.1 (Nat.add_le_add_left (Nat.min_le_right _ _) _)
theorem fg_okF : okFr (fgR ax nx n0 fn0 cs0 fs0) (fgM ax nx n0 fn0 cs0 fs0) = true := (fgs_ok ax p0 q0 r0 r1 _ (Nat.min_le_right _ _)).2.2.1
theorem fg_leM : fgM ax nx n0 fn0 cs0 fs0 ≤ fn0 + 12 := Nat.le_trans (fgs_ok ax p0 q0 r0 r1 _ (Nat.min_le_right _ _)).2.2.2 (Nat.add_le_add_left (Nat.min_le_right _ _) _)
end
abbrev fgI (ax : List LV) (n0 fn0 : Nat) (cs0 fs0 : List LV) : List LB := [.ro ax, .cells [.int .i64 96, .sl 2 0 1 1] none, .cells [.ptr 3 0] none, .cells [.ptr 4 0, .slo 6 0 fn0 0] none, .cells [.int .i64 96, .slo 5 0 n0 0] none, .cells cs0 (some 2), .cells fs0 (some 1)]
abbrev fgH (ax : List LV) (n0 fn0 : Nat) (cs0 fs0 : List LV) : List LB := [.ro ax, .cells [.int .i64 96, .sl 2 0 1 1] none, .cells [.ptr 3 0] none, .cells [.ptr 4 0, .slo 8 0 fn0 0] none, .cells [.int .i64 96, .slo 7 0 n0 0] none, .dead, .dead, .cells cs0 (some 2), .cells fs0 (some 1)]
theorem fg_a (nx : Nat) (ax : List LV) (n0 fn0 : Nat) (cs0 fs0 : List LV) (K : Pk) : (xsp Go.Proofs.Try.prog (fun _ => none) 100 44 (seg (sp Go.Proofs.Try.prog 23) 0 2) (tm0 [.ptr 1 0, .slo 0 0 nx 0]) (mkS (fgI ax n0 fn0 cs0 fs0)) (vK flL K)) = (
  K .normal [.ptr 1 0, .slo 0 0 nx 0, .bool false, .int .i64 0] [some (.ro ax), some (.cells [.int .i64 96, .sl 2 0 1 1] none), some (.cells [.ptr 3 0] none), some (.cells [.ptr 4 0, .slo 6 0 fn0 0] none), some (.cells [.int .i64 96, .slo 5 0 n0 0] none), some (.cells cs0 (some 2)), some (.cells fs0 (some 1))] []) := by kernel_rfl
theorem fg_b (nx i : Nat) (ax : List LV) (n0 fn0 : Nat) (cs0 fs0 : List LV) (K : Pk) : (xcode Go.Proofs.Try.prog cxl9 100 44 (loopOf (nthC (sp Go.Proofs.Try.prog 23) 2)) (mkTm 44 (flT nx i)) (mkS (fgH ax n0 fn0 cs0 fs0)) (vK flL K)) = (
  bif xcm .lss ↑i ↑nx then (
   bif xcm .lss (↑i) 12 then (
    bif xle (xadd (xnat ↑i) 1) nx then
    bif xle (xadd (xix 0 (xnat ↑i) 4) 1) (xln ax) then
    bif isI .i64 (nthD ax (xix 0 (xnat ↑i) 4)) then
    bif xcm .eql (xar .and .i64 (asI (nthD ax (xix 0 (xnat ↑i) 4))) 3) 3 then (
     bif xle (xadd (xnat ↑i) 1) nx then
     bif xle (xadd (xadd (xix 0 (xnat ↑i) 4) 1) 1) (xln ax) then
     bif isI .i64 (nthD ax (xadd (xix 0 (xnat ↑i) 4) 1)) then
     bif xle (xadd fn0 1) 1000000 then
     bif xle (xadd 0 (xmul fn0 1)) (xln fs0) then
     K .normal [.ptr 1 0, .slo 0 0 nx 0, .any, .int .i64 (xar .add .i64 (↑i) 1)] [some (.ro ax), some (.cells [.int .i64 96, .sl 2 0 1 1] none), some (.cells [.ptr 3 0] none), some (.cells [.ptr 4 0, .slo 10 0 (xadd fn0 1) 0] none), some (.cells [.int .i64 96, .slo 7 0 n0 0] none), some .dead, some .dead, some (.cells cs0 (some 2)), some .dead, some (.cells [.int .i64 (asI (nthD ax (xadd (xix 0 (xnat ↑i) 4) 1)))] none), some (.cells (xcat (xcut fs0 0 (xmul fn0 1)) [.int .i64 (asI (nthD ax (xadd (xix 0 (xnat ↑i) 4) 1)))]) (some 1))] []
     else False
     else False
     else False
     else False
     else False)
    else (
     bif xle (xadd (xnat ↑i) 1) nx then
     bif xle (xadd (xadd (xix 0 (xnat ↑i) 4) 1) 1) (xln ax) then
     bif isI .i64 (nthD ax (xadd (xix 0 (xnat ↑i) 4) 1)) then
     bif xle (xadd (xnat ↑i) 1) nx then
     bif xle (xadd (xadd (xix 0 (xnat ↑i) 4) 2) 1) (xln ax) then
     bif isI .u64 (nthD ax (xadd (xix 0 (xnat ↑i) 4) 2)) then
     bif okC cs0 n0 then
     bif xcm .geq (fndW cs0 (wthV (asI (nthD ax (xadd (xix 0 (xnat ↑i) 4) 1))) 1 20)) 0 then (
      bif xnn (fndW cs0 (wthV (asI (nthD ax (xadd (xix 0 (xnat ↑i) 4) 1))) 1 20)) then
      bif xle (xadd (xnat (fndW cs0 (wthV (asI (nthD ax (xadd (xix 0 (xnat ↑i) 4) 1))) 1 20))) 1) n0 then
      bif xle (xadd (xadd (xix 0 (xnat (fndW cs0 (wthV (asI (nthD ax (xadd (xix 0 (xnat ↑i) 4) 1))) 1 20))) 2) 1) 1) (xln cs0) then
      bif isI .u64 (nthD cs0 (xadd (xix 0 (xnat (fndW cs0 (wthV (asI (nthD ax (xadd (xix 0 (xnat ↑i) 4) 1))) 1 20))) 2) 1)) then
      bif okC cs0 n0 then
      bif xle (xadd n0 1) 1000000 then
      bif xle (xadd (xadd (xix 0 (xnat ↑i) 4) 2) 1) (xln ax) then
      bif isI .u64 (nthD ax (xadd (xix 0 (xnat ↑i) 4) 2)) then
      bif xcm .eql (asI (nthD ax (xadd (xix 0 (xnat ↑i) 4) 2))) (asI (nthD ax (xadd (xix 0 (xnat ↑i) 4) 2))) then
      bif xle (xadd (xadd (xix 0 (xnat ↑i) 4) 2) 1) (xln ax) then
      bif isI .u64 (nthD ax (xadd (xix 0 (xnat ↑i) 4) 2)) then
      bif xcm .eql (asI (nthD ax (xadd (xix 0 (xnat ↑i) 4) 2))) (asI (nthD ax (xadd (xix 0 (xnat ↑i) 4) 2))) then
      bif xcm .neq (putE 96 n0 cs0 (wthV (asI (nthD ax (xadd (xix 0 (xnat ↑i) 4) 1))) 1 20) (asI (nthD ax (xadd (xix 0 (xnat ↑i) 4) 2)))) 0 then (
       K .ret [.ptr 1 0, .slo 0 0 nx 0, .bool false, .int .i64 ↑i] [some (.ro ax), some (.cells [.int .i64 96, .sl 2 0 1 1] none), some (.cells [.ptr 3 0] none), some (.cells [.ptr 4 0, .slo 8 0 fn0 0] none), some (.cells [.int .i64 96, .slo 12 0 (tk1N 96 n0 cs0 (wthV (asI (nthD ax (xadd (xix 0 (xnat ↑i) 4) 1))) 1 20) (asI (nthD ax (xadd (xix 0 (xnat ↑i) 4) 2)))) 0] none), some .dead, some .dead, some .dead, some (.cells fs0 (some 1)), some (.cells [.int .i64 (wthV (asI (nthD ax (xadd (xix 0 (xnat ↑i) 4) 1))) 1 20), .int .u64 (asI (nthD ax (xadd (xix 0 (xnat ↑i) 4) 2)))] none), some (.cells [.int .i64 (xmn (xmx (xar .sub .i64 96 ↑n0) 0) 96), .nils] none), some (.cells [.int .i64 (wthV (asI (nthD ax (xadd (xix 0 (xnat ↑i) 4) 1))) 1 20), .int .u64 (asI (nthD ax (xadd (xix 0 (xnat ↑i) 4) 2)))] none), some (.cells (tk1C 96 n0 cs0 (wthV (asI (nthD ax (xadd (xix 0 (xnat ↑i) 4) 1))) 1 20) (asI (nthD ax (xadd (xix 0 (xnat ↑i) 4) 2)))) (some 2))] [])
      else (
       K .normal [.ptr 1 0, .slo 0 0 nx 0, .any, .int .i64 (xar .add .i64 (↑i) 1)] [some (.ro ax), some (.cells [.int .i64 96, .sl 2 0 1 1] none), some (.cells [.ptr 3 0] none), some (.cells [.ptr 4 0, .slo 8 0 fn0 0] none), some (.cells [.int .i64 96, .slo 12 0 (tk1N 96 n0 cs0 (wthV (asI (nthD ax (xadd (xix 0 (xnat ↑i) 4) 1))) 1 20) (asI (nthD ax (xadd (xix 0 (xnat ↑i) 4) 2)))) 0] none), some .dead, some .dead, some .dead, some (.cells fs0 (some 1)), some (.cells [.int .i64 (wthV (asI (nthD ax (xadd (xix 0 (xnat ↑i) 4) 1))) 1 20), .int .u64 (asI (nthD ax (xadd (xix 0 (xnat ↑i) 4) 2)))] none), some (.cells [.int .i64 (xmn (xmx (xar .sub .i64 96 ↑n0) 0) 96), .nils] none), some (.cells [.int .i64 (wthV (asI (nthD ax (xadd (xix 0 (xnat ↑i) 4) 1))) 1 20), .int .u64 (asI (nthD ax (xadd (xix 0 (xnat ↑i) 4) 2)))] none), some (.cells (tk1C 96 n0 cs0 (wthV (asI (nthD ax (xadd (xix 0 (xnat ↑i) 4) 1))) 1 20) (asI (nthD ax (xadd (xix 0 (xnat ↑i) 4) 2)))) (some 2))] [])
      else False
      else False
      else False
      else False
      else False
      else False
      else False
      else False
      else False
      else False
      else False
      else False)
     else (
      bif xcm .lss (wthV (asI (nthD ax (xadd (xix 0 (xnat ↑i) 4) 1))) 1 20) 1 then (
       bif xle (xadd (xadd (xix 0 (xnat ↑i) 4) 2) 1) (xln ax) then
       bif isI .u64 (nthD ax (xadd (xix 0 (xnat ↑i) 4) 2)) then
       bif xcm .eql (asI (nthD ax (xadd (xix 0 (xnat ↑i) 4) 2))) (asI (nthD ax (xadd (xix 0 (xnat ↑i) 4) 2))) then
       bif xle (xadd (xadd (xix 0 (xnat ↑i) 4) 2) 1) (xln ax) then
       bif isI .u64 (nthD ax (xadd (xix 0 (xnat ↑i) 4) 2)) then
       bif xcm .eql (asI (nthD ax (xadd (xix 0 (xnat ↑i) 4) 2))) (asI (nthD ax (xadd (xix 0 (xnat ↑i) 4) 2))) then
       K .ret [.ptr 1 0, .slo 0 0 nx 0, .bool false, .int .i64 ↑i] [some (.ro ax), some (.cells [.int .i64 96, .sl 2 0 1 1] none), some (.cells [.ptr 3 0] none), some (.cells [.ptr 4 0, .slo 8 0 fn0 0] none), some (.cells [.int .i64 96, .slo 7 0 n0 0] none), some .dead, some .dead, some (.cells cs0 (some 2)), some (.cells fs0 (some 1)), some (.cells [.int .i64 (wthV (asI (nthD ax (xadd (xix 0 (xnat ↑i) 4) 1))) 1 20), .int .u64 (asI (nthD ax (xadd (xix 0 (xnat ↑i) 4) 2)))] none), some (.cells [.int .i64 (xmn (xmx (xar .sub .i64 96 ↑n0) 0) 96), .nils] none), some (.cells [.int .i64 (wthV (asI (nthD ax (xadd (xix 0 (xnat ↑i) 4) 1))) 1 20), .int .u64 (asI (nthD ax (xadd (xix 0 (xnat ↑i) 4) 2)))] none)] []
       else False
       else False
       else False
       else False
       else False
       else False)
      else (
       bif xcm .geq (wthV (asI (nthD ax (xadd (xix 0 (xnat ↑i) 4) 1))) 1 20) 256 then (
        bif xle (xadd (xadd (xix 0 (xnat ↑i) 4) 2) 1) (xln ax) then
        bif isI .u64 (nthD ax (xadd (xix 0 (xnat ↑i) 4) 2)) then
        bif xcm .eql (asI (nthD ax (xadd (xix 0 (xnat ↑i) 4) 2))) (asI (nthD ax (xadd (xix 0 (xnat ↑i) 4) 2))) then
        bif xle (xadd (xadd (xix 0 (xnat ↑i) 4) 2) 1) (xln ax) then
        bif isI .u64 (nthD ax (xadd (xix 0 (xnat ↑i) 4) 2)) then
        bif xcm .eql (asI (nthD ax (xadd (xix 0 (xnat ↑i) 4) 2))) (asI (nthD ax (xadd (xix 0 (xnat ↑i) 4) 2))) then
        K .ret [.ptr 1 0, .slo 0 0 nx 0, .bool false, .int .i64 ↑i] [some (.ro ax), some (.cells [.int .i64 96, .sl 2 0 1 1] none), some (.cells [.ptr 3 0] none), some (.cells [.ptr 4 0, .slo 8 0 fn0 0] none), some (.cells [.int .i64 96, .slo 7 0 n0 0] none), some .dead, some .dead, some (.cells cs0 (some 2)), some (.cells fs0 (some 1)), some (.cells [.int .i64 (wthV (asI (nthD ax (xadd (xix 0 (xnat ↑i) 4) 1))) 1 20), .int .u64 (asI (nthD ax (xadd (xix 0 (xnat ↑i) 4) 2)))] none), some (.cells [.int .i64 (xmn (xmx (xar .sub .i64 96 ↑n0) 0) 96), .nils] none), some (.cells [.int .i64 (wthV (asI (nthD ax (xadd (xix 0 (xnat ↑i) 4) 1))) 1 20), .int .u64 (asI (nthD ax (xadd (xix 0 (xnat ↑i) 4) 2)))] none)] []
        else False
        else False
        else False
        else False
        else False
        else False)
       else (
        bif xcm .geq 0 (xmn (xmx (xar .sub .i64 96 ↑n0) 0) 96) then (
         bif xle (xadd (xadd (xix 0 (xnat ↑i) 4) 2) 1) (xln ax) then
         bif isI .u64 (nthD ax (xadd (xix 0 (xnat ↑i) 4) 2)) then
         bif xcm .eql (asI (nthD ax (xadd (xix 0 (xnat ↑i) 4) 2))) (asI (nthD ax (xadd (xix 0 (xnat ↑i) 4) 2))) then
         bif xle (xadd (xadd (xix 0 (xnat ↑i) 4) 2) 1) (xln ax) then
         bif isI .u64 (nthD ax (xadd (xix 0 (xnat ↑i) 4) 2)) then
         bif xcm .eql (asI (nthD ax (xadd (xix 0 (xnat ↑i) 4) 2))) (asI (nthD ax (xadd (xix 0 (xnat ↑i) 4) 2))) then
         K .ret [.ptr 1 0, .slo 0 0 nx 0, .bool false, .int .i64 ↑i] [some (.ro ax), some (.cells [.int .i64 96, .sl 2 0 1 1] none), some (.cells [.ptr 3 0] none), some (.cells [.ptr 4 0, .slo 8 0 fn0 0] none), some (.cells [.int .i64 96, .slo 7 0 n0 0] none), some .dead, some .dead, some (.cells cs0 (some 2)), some (.cells fs0 (some 1)), some (.cells [.int .i64 (wthV (asI (nthD ax (xadd (xix 0 (xnat ↑i) 4) 1))) 1 20), .int .u64 (asI (nthD ax (xadd (xix 0 (xnat ↑i) 4) 2)))] none), some (.cells [.int .i64 (xmn (xmx (xar .sub .i64 96 ↑n0) 0) 96), .nils] none), some (.cells [.int .i64 (wthV (asI (nthD ax (xadd (xix 0 (xnat ↑i) 4) 1))) 1 20), .int .u64 (asI (nthD ax (xadd (xix 0 (xnat ↑i) 4) 2)))] none)] []
         else False
         else False
         else False
         else False
         else False
         else False)
        else (
         bif okC cs0 n0 then
         bif xle (xadd n0 1) 1000000 then
         bif xle (xadd (xadd (xix 0 (xnat ↑i) 4) 2) 1) (xln ax) then
         bif isI .u64 (nthD ax (xadd (xix 0 (xnat ↑i) 4) 2)) then
         bif xcm .eql (asI (nthD ax (xadd (xix 0 (xnat ↑i) 4) 2))) (asI (nthD ax (xadd (xix 0 (xnat ↑i) 4) 2))) then
         bif xle (xadd (xadd (xix 0 (xnat ↑i) 4) 2) 1) (xln ax) then
         bif isI .u64 (nthD ax (xadd (xix 0 (xnat ↑i) 4) 2)) then
         bif xcm .eql (asI (nthD ax (xadd (xix 0 (xnat ↑i) 4) 2))) (asI (nthD ax (xadd (xix 0 (xnat ↑i) 4) 2))) then
         bif xcm .neq (putE 96 n0 cs0 (wthV (asI (nthD ax (xadd (xix 0 (xnat ↑i) 4) 1))) 1 20) (asI (nthD ax (xadd (xix 0 (xnat ↑i) 4) 2)))) 0 then (
          K .ret [.ptr 1 0, .slo 0 0 nx 0, .bool false, .int .i64 ↑i] [some (.ro ax), some (.cells [.int .i64 96, .sl 2 0 1 1] none), some (.cells [.ptr 3 0] none), some (.cells [.ptr 4 0, .slo 8 0 fn0 0] none), some (.cells [.int .i64 96, .slo 14 0 (tk1N 96 n0 cs0 (wthV (asI (nthD ax (xadd (xix 0 (xnat ↑i) 4) 1))) 1 20) (asI (nthD ax (xadd (xix 0 (xnat ↑i) 4) 2)))) 0] none), some .dead, some .dead, some .dead, some (.cells fs0 (some 1)), some (.cells [.int .i64 (wthV (asI (nthD ax (xadd (xix 0 (xnat ↑i) 4) 1))) 1 20), .int .u64 (asI (nthD ax (xadd (xix 0 (xnat ↑i) 4) 2)))] none), some (.cells [.int .i64 (xmn (xmx (xar .sub .i64 96 ↑n0) 0) 96), .slo 13 0 1 0] none), some (.cells [.int .i64 (wthV (asI (nthD ax (xadd (xix 0 (xnat ↑i) 4) 1))) 1 20), .int .u64 (asI (nthD ax (xadd (xix 0 (xnat ↑i) 4) 2)))] none), some (.cells [.int .i64 (wthV (asI (nthD ax (xadd (xix 0 (xnat ↑i) 4) 1))) 1 20), .int .u64 (asI (nthD ax (xadd (xix 0 (xnat ↑i) 4) 2)))] none), some (.cells [.int .i64 (wthV (asI (nthD ax (xadd (xix 0 (xnat ↑i) 4) 1))) 1 20), .int .u64 (asI (nthD ax (xadd (xix 0 (xnat ↑i) 4) 2)))] (some 2)), some (.cells (tk1C 96 n0 cs0 (wthV (asI (nthD ax (xadd (xix 0 (xnat ↑i) 4) 1))) 1 20) (asI (nthD ax (xadd (xix 0 (xnat ↑i) 4) 2)))) (some 2))] [])
         else (
          K .normal [.ptr 1 0, .slo 0 0 nx 0, .any, .int .i64 (xar .add .i64 (↑i) 1)] [some (.ro ax), some (.cells [.int .i64 96, .sl 2 0 1 1] none), some (.cells [.ptr 3 0] none), some (.cells [.ptr 4 0, .slo 8 0 fn0 0] none), some (.cells [.int .i64 96, .slo 14 0 (tk1N 96 n0 cs0 (wthV (asI (nthD ax (xadd (xix 0 (xnat ↑i) 4) 1))) 1 20) (asI (nthD ax (xadd (xix 0 (xnat ↑i) 4) 2)))) 0] none), some .dead, some .dead, some .dead, some (.cells fs0 (some 1)), some (.cells [.int .i64 (wthV (asI (nthD ax (xadd (xix 0 (xnat ↑i) 4) 1))) 1 20), .int .u64 (asI (nthD ax (xadd (xix 0 (xnat ↑i) 4) 2)))] none), some (.cells [.int .i64 (xmn (xmx (xar .sub .i64 96 ↑n0) 0) 96), .slo 13 0 1 0] none), some (.cells [.int .i64 (wthV (asI (nthD ax (xadd (xix 0 (xnat ↑i) 4) 1))) 1 20), .int .u64 (asI (nthD ax (xadd (xix 0 (xnat ↑i) 4) 2)))] none), some (.cells [.int .i64 (wthV (asI (nthD ax (xadd (xix 0 (xnat ↑i) 4) 1))) 1 20), .int .u64 (asI (nthD ax (xadd (xix 0 (xnat ↑i) 4) 2)))] none), some (.cells [.int .i64 (wthV (asI (nthD ax (xadd (xix 0 (xnat ↑i) 4) 1))) 1 20), .int .u64 (asI (nthD ax (xadd (xix 0 (xnat ↑i) 4) 2)))] (some 2)), some (.cells (tk1C 96 n0 cs0 (wthV (asI (nthD ax (xadd (xix 0 (xnat ↑i) 4) 1))) 1 20) (asI (nthD ax (xadd (xix 0 (xnat ↑i) 4) 2)))) (some 2))] [])
         else False
         else False
         else False
         else False
         else False
         else False
         else False
         else False))))
     else False
     else False
     else False
     else False
     else False
     else False
     else False)
    else False
    else False
    else False)
   else (
    K (.exit 0) [.ptr 1 0, .slo 0 0 nx 0, .any, .int .i64 ↑i] [some (.ro ax), some (.cells [.int .i64 96, .sl 2 0 1 1] none), some (.cells [.ptr 3 0] none), some (.cells [.ptr 4 0, .slo 8 0 fn0 0] none), some (.cells [.int .i64 96, .slo 7 0 n0 0] none), some .dead, some .dead, some (.cells cs0 (some 2)), some (.cells fs0 (some 1))] []))
  else (
   K (.exit 0) [.ptr 1 0, .slo 0 0 nx 0, .any, .int .i64 ↑i] [some (.ro ax), some (.cells [.int .i64 96, .sl 2 0 1 1] none), some (.cells [.ptr 3 0] none), some (.cells [.ptr 4 0, .slo 8 0 fn0 0] none), some (.cells [.int .i64 96, .slo 7 0 n0 0] none), some .dead, some .dead, some (.cells cs0 (some 2)), some (.cells fs0 (some 1))] [])) := by kernel_rfl
theorem fg_z (nx i : Nat) (ax : List LV) (n0 fn0 : Nat) (cs0 fs0 : List LV) (K : Pk) : (xsp Go.Proofs.Try.prog cxl9 100 44 ((sp Go.Proofs.Try.prog 23).drop 3) (mkTm 44 (flT nx i)) (mkS (fgH ax n0 fn0 cs0 fs0)) (vK flL K)) = (
  K .ret [.ptr 1 0, .slo 0 0 nx 0, .bool true, .int .i64 ↑i] [some (.ro ax), some (.cells [.int .i64 96, .sl 2 0 1 1] none), some (.cells [.ptr 3 0] none), some (.cells [.ptr 4 0, .slo 8 0 fn0 0] none), some (.cells [.int .i64 96, .slo 7 0 n0 0] none), some .dead, some .dead, some (.cells cs0 (some 2)), some (.cells fs0 (some 1))] []) := by kernel_rfl
set_option maxHeartbeats 2000000 in
theorem fgt_ok (nx : Nat) (ax : List LV) (n0 fn0 : Nat) (cs0 fs0 : List LV) (hA : okA ax nx = true) (p0 : okC cs0 n0 = true) (q0 : okFr fs0 fn0 = true) (r0 : n0 ≤ 48) (r1 : fn0 ≤ 48) :
    SFun Go.Proofs.Try.prog 23 [.ptr 1 0, .slo 0 0 nx 0] (mkS (fgI ax n0 fn0 cs0 fs0)) fun l s => l = .bool true ∧ s = mkS (fgH ax (fgN ax nx n0 fn0 cs0 fs0) (fgM ax nx n0 fn0 cs0 fs0) (fgC ax nx n0 fn0 cs0 fs0) (fgR ax nx n0 fn0 cs0 fs0)) := by
  refine SFun.mono (SFun.pieces (Q := fun l b => l = .bool true ∧ b = fgH ax (fgN ax nx n0 fn0 cs0 fs0) (fgM ax nx n0 fn0 cs0 fs0) (fgC ax nx n0 fn0 cs0 fs0) (fgR ax nx n0 fn0 cs0 fs0)) 44 7 flL [4] (by kernel_rfl) rfl rfl rfl ?_) fun l s' ⟨b0, ⟨h1, h2⟩, h3⟩ => ⟨h1, by rw [h3, h2]⟩
  have na := okA_noids hA
  have np0 := noids_ok p0
  have nq0 := okFr_noids q0
  refine SSp.to noCx_ok (n := 100) (g := []) 2 2 rfl (σ := Unit) (fun _ => flT nx 0) (fun _ => fgH ax n0 fn0 cs0 fs0) (mkS_le (Nat.le_refl _)) (by kernel_rfl) ?_ fun _ => ?_
  · rw [fg_a]; exact ⟨rfl, (), [.id 0, .id 1, .id 2, .id 3, .id 4, .id 5, .id 6, .id 5, .id 6], by (exact ⟨by kernel_rfl, by ((repeat refine okTms_cons (by (first | exact lw_any | exact lw_int | exact lw_bool | exact lw_ptr rfl | exact lw_slo rfl | exact lw_nilp | exact lw_nils | exact lw_str | exact lw_slo_nils | exact lw_slo_sle | exact lw_sl rfl | exact lw_unb | exact lw_gptr | exact lw_noid rfl | exact lw_cap rfl (Nat.le_refl _) | exact lw_cap rfl (by omega) | assumption | exact lw_tup (by ((repeat refine lws_cons (by (first | exact lw_any | exact lw_int | exact lw_bool | exact lw_ptr rfl | exact lw_slo rfl | exact lw_nilp | exact lw_nils | exact lw_str | exact lw_slo_nils | exact lw_slo_sle | exact lw_sl rfl | exact lw_unb | exact lw_gptr | exact lw_noid rfl | exact lw_cap rfl (Nat.le_refl _) | exact lw_cap rfl (by omega) | assumption)) ?_); exact lws_nil)))) ?_); exact okTms_nil), by ((repeat refine okBlks_cons (by (first | exact lb_dead | exact lb_same (by (first | assumption | exact noIds_tab (fun _ => rfl) _ _ | exact noIds_encL (fun _ => rfl) _ | rfl)) | exact lb_ro (by (first | assumption | exact noIds_tab (fun _ => rfl) _ _ | exact noIds_encL (fun _ => rfl) _ | rfl)) | exact lb_none | exact lb_cells (by ((repeat refine lws_cons (by (first | exact lw_any | exact lw_int | exact lw_bool | exact lw_ptr rfl | exact lw_slo rfl | exact lw_nilp | exact lw_nils | exact lw_str | exact lw_slo_nils | exact lw_slo_sle | exact lw_sl rfl | exact lw_unb | exact lw_gptr | exact lw_noid rfl | exact lw_cap rfl (Nat.le_refl _) | exact lw_cap rfl (by omega) | assumption | exact lw_tup (by ((repeat refine lws_cons (by (first | exact lw_any | exact lw_int | exact lw_bool | exact lw_ptr rfl | exact lw_slo rfl | exact lw_nilp | exact lw_nils | exact lw_str | exact lw_slo_nils | exact lw_slo_sle | exact lw_sl rfl | exact lw_unb | exact lw_gptr | exact lw_noid rfl | exact lw_cap rfl (Nat.le_refl _) | exact lw_cap rfl (by omega) | assumption)) ?_); exact lws_nil)))) ?_); exact lws_nil)) (by simp) | exact lb_iter | exact lb_cap (Nat.le_refl _) (Nat.le_refl _) rfl rfl | exact lb_capn (by assumption) (by (first | assumption | exact noIds_tab (fun _ => rfl) _ _ | exact noIds_encL (fun _ => rfl) _ | rfl)) | assumption)) ?_); exact okBlks_nil)⟩)⟩
  refine SSp.code_to (g := []) 3 rfl (σ := Unit) (fun _ => flT nx (min nx 12)) (fun _ => fgH ax (fgN ax nx n0 fn0 cs0 fs0) (fgM ax nx n0 fn0 cs0 fs0) (fgC ax nx n0 fn0 cs0 fs0) (fgR ax nx n0 fn0 cs0 fs0)) (by kernel_rfl) ?_ fun _ => ?_
  · refine SCode.loop_vc cxl9_ok (n := 100) 0 (by kernel_rfl) (σ := {i : Nat // i ≤ min nx 12}) (fun i => flT nx i.1) (fun i => fgH ax (fgS ax ((n0, cs0), fn0, fs0) i.1).1.1 (fgS ax ((n0, cs0), fn0, fs0) i.1).2.1 (fgS ax ((n0, cs0), fn0, fs0) i.1).1.2 (fgS ax ((n0, cs0), fn0, fs0) i.1).2.2) (fun i => nx - i.1) (fun _ => Nat.le_of_ble_eq_true rfl) (fun ⟨i, hi⟩ => ?_) ⟨0, Nat.zero_le _⟩
    dsimp only
    obtain ⟨o1, o2, o3, o4⟩ := fgs_ok ax p0 q0 r0 r1 i (by omega)
    have no1 := noids_ok o1
    have no3 := okFr_noids o3
    have la := okA_len hA
    have l3 := okFr_len o3
    have l1 := len_ok o1
    rw [fg_b, wd_lss, wd_lss12]
    refine ite_way (fun h1 => ?_) (fun h1 => ?_)
    · refine ite_way (fun h2 => ?_) (fun h2 => ?_)
      · obtain ⟨k, e0⟩ := okA_0 hA h1
        obtain ⟨a, e1⟩ := okA_1 hA h1
        obtain ⟨z, e2⟩ := okA_2 hA h1
        have wl := wth_le a
        have st : fgS ax ((n0, cs0), fn0, fs0) (i + 1) = if xar .and .i64 k 3 = 3 then ((fgS ax ((n0, cs0), fn0, fs0) i).1, (fgS ax ((n0, cs0), fn0, fs0) i).2.1 + 1, xcat (xcut (fgS ax ((n0, cs0), fn0, fs0) i).2.2 0 (fgS ax ((n0, cs0), fn0, fs0) i).2.1) [.int .i64 a]) else ((tk1N 96 (fgS ax ((n0, cs0), fn0, fs0) i).1.1 (fgS ax ((n0, cs0), fn0, fs0) i).1.2 (wthV a 1 20) z, tk1C 96 (fgS ax ((n0, cs0), fn0, fs0) i).1.1 (fgS ax ((n0, cs0), fn0, fs0) i).1.2 (wthV a 1 20) z), (fgS ax ((n0, cs0), fn0, fs0) i).2) := by rw [fgS, e0, e1, e2]; rfl
        obtain ⟨o5, _, o6, _⟩ := fgs_ok ax p0 q0 r0 r1 (i + 1) (by omega)
        have no5 := noids_ok o5
        have no6 := okFr_noids o6
        simp only [wd_nat, wd_asV, wd_isV, wd_ix, wd_add, wd_mul, wd_ln, Nat.zero_add, Nat.mul_one, wd_isI, wd_asI, wd_isB, wd_asB, wd_nn, cI_tlen, cB_tlen, cII_tlen, decide_true, cond_true, wd_not_t, wd_not_f, wd_and_t, wd_and_f, e0, e1, e2, o1, cm_self, xcm_eql, inc_i64 h1 (okA_le hA)]
        (repeat (with_reducible refine must (by (first | with_reducible rfl | exact t_le (by omega) | exact t_eq (by omega) | exact t_nn (by omega) | exact t_lss (by omega) | exact t_leq (by omega) | exact t_gtr (by omega) | exact t_geq (by omega) | exact t_eql (by omega) | exact t_neq (by omega) | exact t_z (by omega) | exact wd_not_f | assumption)) ?_))
        refine ite_way (fun h3 => ?_) (fun h3 => ?_)
        · rw [if_pos h3] at st
          rw [st] at no6
          (repeat (with_reducible refine must (by (first | with_reducible rfl | exact t_le (by omega) | exact t_eq (by omega) | exact t_nn (by omega) | exact t_lss (by omega) | exact t_leq (by omega) | exact t_gtr (by omega) | exact t_geq (by omega) | exact t_eql (by omega) | exact t_neq (by omega) | exact t_z (by omega) | exact wd_not_f | assumption)) ?_))
          refine ⟨rfl, ⟨i + 1, by omega⟩, by simp only; omega, [.id 0, .id 1, .id 2, .id 3, .id 4, .id 5, .id 6, .id 7, .id 10], ?_⟩
          simp only [st]
          (exact ⟨by kernel_rfl, by ((repeat refine okTms_cons (by (first | exact lw_any | exact lw_int | exact lw_bool | exact lw_ptr rfl | exact lw_slo rfl | exact lw_nilp | exact lw_nils | exact lw_str | exact lw_slo_nils | exact lw_slo_sle | exact lw_sl rfl | exact lw_unb | exact lw_gptr | exact lw_noid rfl | exact lw_cap rfl (Nat.le_refl _) | exact lw_cap rfl (by omega) | assumption | exact lw_tup (by ((repeat refine lws_cons (by (first | exact lw_any | exact lw_int | exact lw_bool | exact lw_ptr rfl | exact lw_slo rfl | exact lw_nilp | exact lw_nils | exact lw_str | exact lw_slo_nils | exact lw_slo_sle | exact lw_sl rfl | exact lw_unb | exact lw_gptr | exact lw_noid rfl | exact lw_cap rfl (Nat.le_refl _) | exact lw_cap rfl (by omega) | assumption)) ?_); exact lws_nil)))) ?_); exact okTms_nil), by ((repeat refine okBlks_cons (by (first | exact lb_dead | exact lb_same (by (first | assumption | exact noIds_tab (fun _ => rfl) _ _ | exact noIds_encL (fun _ => rfl) _ | rfl)) | exact lb_ro (by (first | assumption | exact noIds_tab (fun _ => rfl) _ _ | exact noIds_encL (fun _ => rfl) _ | rfl)) | exact lb_none | exact lb_cells (by ((repeat refine lws_cons (by (first | exact lw_any | exact lw_int | exact lw_bool | exact lw_ptr rfl | exact lw_slo rfl | exact lw_nilp | exact lw_nils | exact lw_str | exact lw_slo_nils | exact lw_slo_sle | exact lw_sl rfl | exact lw_unb | exact lw_gptr | exact lw_noid rfl | exact lw_cap rfl (Nat.le_refl _) | exact lw_cap rfl (by omega) | assumption | exact lw_tup (by ((repeat refine lws_cons (by (first | exact lw_any | exact lw_int | exact lw_bool | exact lw_ptr rfl | exact lw_slo rfl | exact lw_nilp | exact lw_nils | exact lw_str | exact lw_slo_nils | exact lw_slo_sle | exact lw_sl rfl | exact lw_unb | exact lw_gptr | exact lw_noid rfl | exact lw_cap rfl (Nat.le_refl _) | exact lw_cap rfl (by omega) | assumption)) ?_); exact lws_nil)))) ?_); exact lws_nil)) (by simp) | exact lb_iter | exact lb_cap (Nat.le_refl _) (Nat.le_refl _) rfl rfl | exact lb_capn (by assumption) (by (first | assumption | exact noIds_tab (fun _ => rfl) _ _ | exact noIds_encL (fun _ => rfl) _ | rfl)) | assumption)) ?_); exact okBlks_nil)⟩)
        · rw [if_neg h3] at st
          rw [st] at no5
          (repeat (with_reducible refine must (by (first | with_reducible rfl | exact t_le (by omega) | exact t_eq (by omega) | exact t_nn (by omega) | exact t_lss (by omega) | exact t_leq (by omega) | exact t_gtr (by omega) | exact t_geq (by omega) | exact t_eql (by omega) | exact t_neq (by omega) | exact t_z (by omega) | exact wd_not_f | assumption)) ?_))
          by_cases hw : 0 ≤ fndW (fgS ax ((n0, cs0), fn0, fs0) i).1.2 (wthV a 1 20)
          · obtain ⟨j, y, ej, hj, en⟩ := fnd_hitA o1 hw
            simp only [wd_nat, wd_asV, wd_isV, wd_ix, wd_add, wd_mul, wd_ln, Nat.zero_add, Nat.mul_one, wd_isI, wd_asI, wd_isB, wd_asB, wd_nn, cI_tlen, cB_tlen, cII_tlen, decide_true, cond_true, wd_not_t, wd_not_f, wd_and_t, wd_and_f, ej, en, cm_self, putE_0 z wl (show (fgS ax ((n0, cs0), fn0, fs0) i).1.1 < 96 by omega)]
            (with_reducible refine way_t (by (first | with_reducible rfl | exact t_le (by omega) | exact t_eq (by omega) | exact t_nn (by omega) | exact t_lss (by omega) | exact t_leq (by omega) | exact t_gtr (by omega) | exact t_geq (by omega) | exact t_eql (by omega) | exact t_neq (by omega) | exact t_z (by omega) | exact wd_not_f | assumption)) ?_)
            (repeat (with_reducible refine must (by (first | with_reducible rfl | exact t_le (by omega) | exact t_eq (by omega) | exact t_nn (by omega) | exact t_lss (by omega) | exact t_leq (by omega) | exact t_gtr (by omega) | exact t_geq (by omega) | exact t_eql (by omega) | exact t_neq (by omega) | exact t_z (by omega) | exact wd_not_f | assumption)) ?_))
            (with_reducible refine way_f (by (first | with_reducible rfl | exact f_le (by omega) | exact f_eq (by omega) | exact f_nn (by omega) | exact f_lss (by omega) | exact f_leq (by omega) | exact f_gtr (by omega) | exact f_geq (by omega) | exact f_eql (by omega) | exact f_neq (by omega) | exact f_z (by omega) | exact wd_not_t | assumption)) ?_)
            refine ⟨rfl, ⟨i + 1, by omega⟩, by simp only; omega, [.id 0, .id 1, .id 2, .id 3, .id 4, .id 5, .id 6, .id 12, .id 8], ?_⟩
            simp only [st]
            (exact ⟨by kernel_rfl, by ((repeat refine okTms_cons (by (first | exact lw_any | exact lw_int | exact lw_bool | exact lw_ptr rfl | exact lw_slo rfl | exact lw_nilp | exact lw_nils | exact lw_str | exact lw_slo_nils | exact lw_slo_sle | exact lw_sl rfl | exact lw_unb | exact lw_gptr | exact lw_noid rfl | exact lw_cap rfl (Nat.le_refl _) | exact lw_cap rfl (by omega) | assumption | exact lw_tup (by ((repeat refine lws_cons (by (first | exact lw_any | exact lw_int | exact lw_bool | exact lw_ptr rfl | exact lw_slo rfl | exact lw_nilp | exact lw_nils | exact lw_str | exact lw_slo_nils | exact lw_slo_sle | exact lw_sl rfl | exact lw_unb | exact lw_gptr | exact lw_noid rfl | exact lw_cap rfl (Nat.le_refl _) | exact lw_cap rfl (by omega) | assumption)) ?_); exact lws_nil)))) ?_); exact okTms_nil), by ((repeat refine okBlks_cons (by (first | exact lb_dead | exact lb_same (by (first | assumption | exact noIds_tab (fun _ => rfl) _ _ | exact noIds_encL (fun _ => rfl) _ | rfl)) | exact lb_ro (by (first | assumption | exact noIds_tab (fun _ => rfl) _ _ | exact noIds_encL (fun _ => rfl) _ | rfl)) | exact lb_none | exact lb_cells (by ((repeat refine lws_cons (by (first | exact lw_any | exact lw_int | exact lw_bool | exact lw_ptr rfl | exact lw_slo rfl | exact lw_nilp | exact lw_nils | exact lw_str | exact lw_slo_nils | exact lw_slo_sle | exact lw_sl rfl | exact lw_unb | exact lw_gptr | exact lw_noid rfl | exact lw_cap rfl (Nat.le_refl _) | exact lw_cap rfl (by omega) | assumption | exact lw_tup (by ((repeat refine lws_cons (by (first | exact lw_any | exact lw_int | exact lw_bool | exact lw_ptr rfl | exact lw_slo rfl | exact lw_nilp | exact lw_nils | exact lw_str | exact lw_slo_nils | exact lw_slo_sle | exact lw_sl rfl | exact lw_unb | exact lw_gptr | exact lw_noid rfl | exact lw_cap rfl (Nat.le_refl _) | exact lw_cap rfl (by omega) | assumption)) ?_); exact lws_nil)))) ?_); exact lws_nil)) (by simp) | exact lb_iter | exact lb_cap (Nat.le_refl _) (Nat.le_refl _) rfl rfl | exact lb_capn (by assumption) (by (first | assumption | exact noIds_tab (fun _ => rfl) _ _ | exact noIds_encL (fun _ => rfl) _ | rfl)) | assumption)) ?_); exact okBlks_nil)⟩)
          · simp only [wd_nat, wd_asV, wd_isV, wd_ix, wd_add, wd_mul, wd_ln, Nat.zero_add, Nat.mul_one, wd_isI, wd_asI, wd_isB, wd_asB, wd_nn, cI_tlen, cB_tlen, cII_tlen, decide_true, cond_true, wd_not_t, wd_not_f, wd_and_t, wd_and_f, cm_self, putE_0 z wl (show (fgS ax ((n0, cs0), fn0, fs0) i).1.1 < 96 by omega), room1 (show (fgS ax ((n0, cs0), fn0, fs0) i).1.1 ≤ 96 by omega)]
            (with_reducible refine way_f (by (first | with_reducible rfl | exact f_le (by omega) | exact f_eq (by omega) | exact f_nn (by omega) | exact f_lss (by omega) | exact f_leq (by omega) | exact f_gtr (by omega) | exact f_geq (by omega) | exact f_eql (by omega) | exact f_neq (by omega) | exact f_z (by omega) | exact wd_not_t | assumption)) ?_)
            (with_reducible refine way_f (by (first | with_reducible rfl | exact f_le (by omega) | exact f_eq (by omega) | exact f_nn (by omega) | exact f_lss (by omega) | exact f_leq (by omega) | exact f_gtr (by omega) | exact f_geq (by omega) | exact f_eql (by omega) | exact f_neq (by omega) | exact f_z (by omega) | exact wd_not_t | assumption)) ?_)
            (with_reducible refine way_f (by (first | with_reducible rfl | exact f_le (by omega) | exact f_eq (by omega) | exact f_nn (by omega) | exact f_lss (by omega) | exact f_leq (by omega) | exact f_gtr (by omega) | exact f_geq (by omega) | exact f_eql (by omega) | exact f_neq (by omega) | exact f_z (by omega) | exact wd_not_t | assumption)) ?_)
            (with_reducible refine way_f (by (first | with_reducible rfl | exact f_le (by omega) | exact f_eq (by omega) | exact f_nn (by omega) | exact f_lss (by omega) | exact f_leq (by omega) | exact f_gtr (by omega) | exact f_geq (by omega) | exact f_eql (by omega) | exact f_neq (by omega) | exact f_z (by omega) | exact wd_not_t | assumption)) ?_)
            (repeat (with_reducible refine must (by (first | with_reducible rfl | exact t_le (by omega) | exact t_eq (by omega) | exact t_nn (by omega) | exact t_lss (by omega) | exact t_leq (by omega) | exact t_gtr (by omega) | exact t_geq (by omega) | exact t_eql (by omega) | exact t_neq (by omega) | exact t_z (by omega) | exact wd_not_f | assumption)) ?_))
            (with_reducible refine way_f (by (first | with_reducible rfl | exact f_le (by omega) | exact f_eq (by omega) | exact f_nn (by omega) | exact f_lss (by omega) | exact f_leq (by omega) | exact f_gtr (by omega) | exact f_geq (by omega) | exact f_eql (by omega) | exact f_neq (by omega) | exact f_z (by omega) | exact wd_not_t | assumption)) ?_)
            refine ⟨rfl, ⟨i + 1, by omega⟩, by simp only; omega, [.id 0, .id 1, .id 2, .id 3, .id 4, .id 5, .id 6, .id 14, .id 8], ?_⟩
            simp only [st]
            (exact ⟨by kernel_rfl, by ((repeat refine okTms_cons (by (first | exact lw_any | exact lw_int | exact lw_bool | exact lw_ptr rfl | exact lw_slo rfl | exact lw_nilp | exact lw_nils | exact lw_str | exact lw_slo_nils | exact lw_slo_sle | exact lw_sl rfl | exact lw_unb | exact lw_gptr | exact lw_noid rfl | exact lw_cap rfl (Nat.le_refl _) | exact lw_cap rfl (by omega) | assumption | exact lw_tup (by ((repeat refine lws_cons (by (first | exact lw_any | exact lw_int | exact lw_bool | exact lw_ptr rfl | exact lw_slo rfl | exact lw_nilp | exact lw_nils | exact lw_str | exact lw_slo_nils | exact lw_slo_sle | exact lw_sl rfl | exact lw_unb | exact lw_gptr | exact lw_noid rfl | exact lw_cap rfl (Nat.le_refl _) | exact lw_cap rfl (by omega) | assumption)) ?_); exact lws_nil)))) ?_); exact okTms_nil), by ((repeat refine okBlks_cons (by (first | exact lb_dead | exact lb_same (by (first | assumption | exact noIds_tab (fun _ => rfl) _ _ | exact noIds_encL (fun _ => rfl) _ | rfl)) | exact lb_ro (by (first | assumption | exact noIds_tab (fun _ => rfl) _ _ | exact noIds_encL (fun _ => rfl) _ | rfl)) | exact lb_none | exact lb_cells (by ((repeat refine lws_cons (by (first | exact lw_any | exact lw_int | exact lw_bool | exact lw_ptr rfl | exact lw_slo rfl | exact lw_nilp | exact lw_nils | exact lw_str | exact lw_slo_nils | exact lw_slo_sle | exact lw_sl rfl | exact lw_unb | exact lw_gptr | exact lw_noid rfl | exact lw_cap rfl (Nat.le_refl _) | exact lw_cap rfl (by omega) | assumption | exact lw_tup (by ((repeat refine lws_cons (by (first | exact lw_any | exact lw_int | exact lw_bool | exact lw_ptr rfl | exact lw_slo rfl | exact lw_nilp | exact lw_nils | exact lw_str | exact lw_slo_nils | exact lw_slo_sle | exact lw_sl rfl | exact lw_unb | exact lw_gptr | exact lw_noid rfl | exact lw_cap rfl (Nat.le_refl _) | exact lw_cap rfl (by omega) | assumption)) ?_); exact lws_nil)))) ?_); exact lws_nil)) (by simp) | exact lb_iter | exact lb_cap (Nat.le_refl _) (Nat.le_refl _) rfl rfl | exact lb_capn (by assumption) (by (first | assumption | exact noIds_tab (fun _ => rfl) _ _ | exact noIds_encL (fun _ => rfl) _ | rfl)) | assumption)) ?_); exact okBlks_nil)⟩)
      · obtain rfl : i = min nx 12 := by omega
        exact ⟨rfl, (), [.id 0, .id 1, .id 2, .id 3, .id 4, .id 5, .id 6, .id 7, .id 8], by (exact ⟨by kernel_rfl, by ((repeat refine okTms_cons (by (first | exact lw_any | exact lw_int | exact lw_bool | exact lw_ptr rfl | exact lw_slo rfl | exact lw_nilp | exact lw_nils | exact lw_str | exact lw_slo_nils | exact lw_slo_sle | exact lw_sl rfl | exact lw_unb | exact lw_gptr | exact lw_noid rfl | exact lw_cap rfl (Nat.le_refl _) | exact lw_cap rfl (by omega) | assumption | exact lw_tup (by ((repeat refine lws_cons (by (first | exact lw_any | exact lw_int | exact lw_bool | exact lw_ptr rfl | exact lw_slo rfl | exact lw_nilp | exact lw_nils | exact lw_str | exact lw_slo_nils | exact lw_slo_sle | exact lw_sl rfl | exact lw_unb | exact lw_gptr | exact lw_noid rfl | exact lw_cap rfl (Nat.le_refl _) | exact lw_cap rfl (by omega) | assumption)) ?_); exact lws_nil)))) ?_); exact okTms_nil), by ((repeat refine okBlks_cons (by (first | exact lb_dead | exact lb_same (by (first | assumption | exact noIds_tab (fun _ => rfl) _ _ | exact noIds_encL (fun _ => rfl) _ | rfl)) | exact lb_ro (by (first | assumption | exact noIds_tab (fun _ => rfl) _ _ | exact noIds_encL (fun _ => rfl) _ | rfl)) | exact lb_none | exact lb_cells (by ((repeat refine lws_cons (by (first | exact lw_any | exact lw_int | exact lw_bool | exact lw_ptr rfl | exact lw_slo rfl | exact lw_nilp | exact lw_nils | exact lw_str | exact lw_slo_nils | exact lw_slo_sle | exact lw_sl rfl | exact lw_unb | exact lw_gptr | exact lw_noid rfl | exact lw_cap rfl (Nat.le_refl _) | exact lw_cap rfl (by omega) | assumption | exact lw_tup (by ((repeat refine lws_cons (by (first | exact lw_any | exact lw_int | exact lw_bool | exact lw_ptr rfl | exact lw_slo rfl | exact lw_nilp | exact lw_nils | exact lw_str | exact lw_slo_nils | exact lw_slo_sle | exact lw_sl rfl | exact lw_unb | exact lw_gptr | exact lw_noid rfl | exact lw_cap rfl (Nat.le_refl _) | exact lw_cap rfl (by omega) | assumption)) ?_); exact lws_nil)))) ?_); exact lws_nil)) (by simp) | exact lb_iter | exact lb_cap (Nat.le_refl _) (Nat.le_refl _) rfl rfl | exact lb_capn (by assumption) (by (first | assumption | exact noIds_tab (fun _ => rfl) _ _ | exact noIds_encL (fun _ => rfl) _ | rfl)) | assumption)) ?_); exact okBlks_nil)⟩)⟩
    · obtain rfl : i = min nx 12 := by omega
      exact ⟨rfl, (), [.id 0, .id 1, .id 2, .id 3, .id 4, .id 5, .id 6, .id 7, .id 8], by (exact ⟨by kernel_rfl, by ((repeat refine okTms_cons (by (first | exact lw_any | exact lw_int | exact lw_bool | exact lw_ptr rfl | exact lw_slo rfl | exact lw_nilp | exact lw_nils | exact lw_str | exact lw_slo_nils | exact lw_slo_sle | exact lw_sl rfl | exact lw_unb | exact lw_gptr | exact lw_noid rfl | exact lw_cap rfl (Nat.le_refl _) | exact lw_cap rfl (by omega) | assumption | exact lw_tup (by ((repeat refine lws_cons (by (first | exact lw_any | exact lw_int | exact lw_bool | exact lw_ptr rfl | exact lw_slo rfl | exact lw_nilp | exact lw_nils | exact lw_str | exact lw_slo_nils | exact lw_slo_sle | exact lw_sl rfl | exact lw_unb | exact lw_gptr | exact lw_noid rfl | exact lw_cap rfl (Nat.le_refl _) | exact lw_cap rfl (by omega) | assumption)) ?_); exact lws_nil)))) ?_); exact okTms_nil), by ((repeat refine okBlks_cons (by (first | exact lb_dead | exact lb_same (by (first | assumption | exact noIds_tab (fun _ => rfl) _ _ | exact noIds_encL (fun _ => rfl) _ | rfl)) | exact lb_ro (by (first | assumption | exact noIds_tab (fun _ => rfl) _ _ | exact noIds_encL (fun _ => rfl) _ | rfl)) | exact lb_none | exact lb_cells (by ((repeat refine lws_cons (by (first | exact lw_any | exact lw_int | exact lw_bool | exact lw_ptr rfl | exact lw_slo rfl | exact lw_nilp | exact lw_nils | exact lw_str | exact lw_slo_nils | exact lw_slo_sle | exact lw_sl rfl | exact lw_unb | exact lw_gptr | exact lw_noid rfl | exact lw_cap rfl (Nat.le_refl _) | exact lw_cap rfl (by omega) | assumption | exact lw_tup (by ((repeat refine lws_cons (by (first | exact lw_any | exact lw_int | exact lw_bool | exact lw_ptr rfl | exact lw_slo rfl | exact lw_nilp | exact lw_nils | exact lw_str | exact lw_slo_nils | exact lw_slo_sle | exact lw_sl rfl | exact lw_unb | exact lw_gptr | exact lw_noid rfl | exact lw_cap rfl (Nat.le_refl _) | exact lw_cap rfl (by omega) | assumption)) ?_); exact lws_nil)))) ?_); exact lws_nil)) (by simp) | exact lb_iter | exact lb_cap (Nat.le_refl _) (Nat.le_refl _) rfl rfl | exact lb_capn (by assumption) (by (first | assumption | exact noIds_tab (fun _ => rfl) _ _ | exact noIds_encL (fun _ => rfl) _ | rfl)) | assumption)) ?_); exact okBlks_nil)⟩)⟩
  refine SSp.last cxl9_ok (n := 100) (mkS_le (Nat.le_of_ble_eq_true rfl)) ?_
  rw [fg_z]
  have m1 := noids_ok (fg_okC ax nx p0 q0 r0 r1)
  have m2 := okFr_noids (fg_okF ax nx p0 q0 r0 r1)
  exact ⟨trivial, rfl, _, _, [.id 0, .id 1, .id 2, .id 3, .id 4, .id 5, .id 6, .id 7, .id 8], ⟨rfl, rfl⟩, by (exact ⟨by kernel_rfl, by ((repeat refine okTms_cons (by (first | exact lw_any | exact lw_int | exact lw_bool | exact lw_ptr rfl | exact lw_slo rfl | exact lw_nilp | exact lw_nils | exact lw_str | exact lw_slo_nils | exact lw_slo_sle | exact lw_sl rfl | exact lw_unb | exact lw_gptr | exact lw_noid rfl | exact lw_cap rfl (Nat.le_refl _) | exact lw_cap rfl (by omega) | assumption | exact lw_tup (by ((repeat refine lws_cons (by (first | exact lw_any | exact lw_int | exact lw_bool | exact lw_ptr rfl | exact lw_slo rfl | exact lw_nilp | exact lw_nils | exact lw_str | exact lw_slo_nils | exact lw_slo_sle | exact lw_sl rfl | exact lw_unb | exact lw_gptr | exact lw_noid rfl | exact lw_cap rfl (Nat.le_refl _) | exact lw_cap rfl (by omega) | assumption)) ?_); exact lws_nil)))) ?_); exact okTms_nil), by ((repeat refine okBlks_cons (by (first | exact lb_dead | exact lb_same (by (first | assumption | exact noIds_tab (fun _ => rfl) _ _ | exact noIds_encL (fun _ => rfl) _ | rfl)) | exact lb_ro (by (first | assumption | exact noIds_tab (fun _ => rfl) _ _ | exact noIds_encL (fun _ => rfl) _ | rfl)) | exact lb_none | exact lb_cells (by ((repeat refine lws_cons (by (first | exact lw_any | exact lw_int | exact lw_bool | exact lw_ptr rfl | exact lw_slo rfl | exact lw_nilp | exact lw_nils | exact lw_str | exact lw_slo_nils | exact lw_slo_sle | exact lw_sl rfl | exact lw_unb | exact lw_gptr | exact lw_noid rfl | exact lw_cap rfl (Nat.le_refl _) | exact lw_cap rfl (by omega) | assumption | exact lw_tup (by ((repeat refine lws_cons (by (first | exact lw_any | exact lw_int | exact lw_bool | exact lw_ptr rfl | exact lw_slo rfl | exact lw_nilp | exact lw_nils | exact lw_str | exact lw_slo_nils | exact lw_slo_sle | exact lw_sl rfl | exact lw_unb | exact lw_gptr | exact lw_noid rfl | exact lw_cap rfl (Nat.le_refl _) | exact lw_cap rfl (by omega) | assumption)) ?_); exact lws_nil)))) ?_); exact lws_nil)) (by simp) | exact lb_iter | exact lb_cap (Nat.le_refl _) (Nat.le_refl _) rfl rfl | exact lb_capn (by assumption) (by (first | assumption | exact noIds_tab (fun _ => rfl) _ _ | exact noIds_encL (fun _ => rfl) _ | rfl)) | assumption)) ?_); exact okBlks_nil)⟩)⟩
def flatSG : Gc := fun args s => match args, s.g with
  | [.ptr l 0, .slo A 0 nx 0], [] => (match s.h.get A with
    | some (.ro ax) => (match s.h.get l with
      | some (.cells [.int .i64 96, .sl r 0 1 1] none) => (match s.h.get r with
        | some (.cells [.ptr v0 0] none) => (match s.h.get v0 with
          | some (.cells [.ptr w0 0, .slo f0 0 fn0 0] none) => (match s.h.get w0 with
            | some (.cells [.int .i64 96, .slo c0 0 n0 0] none) => (match s.h.get c0 with
              | some (.cells cs0 (some 2)) => (match s.h.get f0 with
                | some (.cells fs0 (some 1)) => cond (nodupB [A, l, r, v0, w0, c0, f0]) (match s.lay [A, l, r, v0, w0, c0, f0] [.ro ax, .cells [.int .i64 96, .sl r 0 1 1] none, .cells [.ptr v0 0] none, .cells [.ptr w0 0, .slo (Nat.succ s.n) 0 (fgM ax nx n0 fn0 cs0 fs0) 0] none, .cells [.int .i64 96, .slo s.n 0 (fgN ax nx n0 fn0 cs0 fs0) 0] none, .dead, .dead] [.cells (fgC ax nx n0 fn0 cs0 fs0) (some 2), .cells (fgR ax nx n0 fn0 cs0 fs0) (some 1)] with
                  | some s' => some ([okA ax nx, okC cs0 n0, okFr fs0 fn0, xle n0 48, xle fn0 48], .bool true, s')
                  | none => none) none
                | _ => none)
              | _ => none)
            | _ => none)
          | _ => none)
        | _ => none)
      | _ => none)
    | _ => none)
  | _, _ => none
theorem flatSG_ok : GOk Go.Proofs.Try.prog 23 flatSG := by
  intro args s bs l s' hg hb hfr
  unfold flatSG at hg
  split at hg
  · rename_i l A nx hgl
    split at hg
    · rename_i ax hb0
      split at hg
      · rename_i r hb1
        split at hg
        · rename_i v0 hb2
          split at hg
          · rename_i w0 f0 fn0 hb3
            split at hg
            · rename_i c0 n0 hb4
              split at hg
              · rename_i cs0 hb5
                split at hg
                · rename_i fs0 hb6
                  cases hbc : nodupB [A, l, r, v0, w0, c0, f0] with
                  | false => rw [hbc] at hg; cases hg
                  | true =>
                    rw [hbc] at hg
                    simp only [cond_true] at hg
                    split at hg
                    · rename_i s1 hs1
                      simp only [Option.some.injEq, Prod.mk.injEq] at hg
                      obtain ⟨rfl, rfl, rfl⟩ := hg
                      simp only [allT_cons] at hb
                      obtain ⟨k1, k2, k3, k4, k5, _⟩ := hb
                      have na := okA_noids k1
                      rw [wd_le, decide_eq_true_eq] at k4 k5
                      have np0 := noids_ok k2
                      have nq0 := okFr_noids k3
                      refine SFun.lay (bs := [.ro ax, .cells [.int .i64 96, .sl 2 0 1 1] none, .cells [.ptr 3 0] none, .cells [.ptr 4 0, .slo 6 0 fn0 0] none, .cells [.int .i64 96, .slo 5 0 n0 0] none, .cells cs0 (some 2), .cells fs0 (some 1)]) (args0 := [.ptr 1 0, .slo 0 0 nx 0]) (bs' := [.ro ax, .cells [.int .i64 96, .sl 2 0 1 1] none, .cells [.ptr 3 0] none, .cells [.ptr 4 0, .slo 8 0 (fgM ax nx n0 fn0 cs0 fs0) 0] none, .cells [.int .i64 96, .slo 7 0 (fgN ax nx n0 fn0 cs0 fs0) 0] none, .dead, .dead, .cells (fgC ax nx n0 fn0 cs0 fs0) (some 2), .cells (fgR ax nx n0 fn0 cs0 fs0) (some 1)]) (v0 := .bool true) hfr hs1 (nodupB_nd hbc)
                        ⟨⟨there hfr hb0, _, hb0, by (first | exact lb_dead | exact lb_same (by (first | assumption | exact noIds_tab (fun _ => rfl) _ _ | exact noIds_encL (fun _ => rfl) _ | rfl)) | exact lb_ro (by (first | assumption | exact noIds_tab (fun _ => rfl) _ _ | exact noIds_encL (fun _ => rfl) _ | rfl)) | exact lb_none | exact lb_cells (by ((repeat refine lws_cons (by (first | exact lw_any | exact lw_int | exact lw_bool | exact lw_ptr rfl | exact lw_slo rfl | exact lw_nilp | exact lw_nils | exact lw_str | exact lw_slo_nils | exact lw_slo_sle | exact lw_sl rfl | exact lw_unb | exact lw_gptr | exact lw_noid rfl | exact lw_cap rfl (Nat.le_refl _) | exact lw_cap rfl (by omega) | assumption | exact lw_tup (by ((repeat refine lws_cons (by (first | exact lw_any | exact lw_int | exact lw_bool | exact lw_ptr rfl | exact lw_slo rfl | exact lw_nilp | exact lw_nils | exact lw_str | exact lw_slo_nils | exact lw_slo_sle | exact lw_sl rfl | exact lw_unb | exact lw_gptr | exact lw_noid rfl | exact lw_cap rfl (Nat.le_refl _) | exact lw_cap rfl (by omega) | assumption)) ?_); exact lws_nil)))) ?_); exact lws_nil)) (by simp) | exact lb_iter | exact lb_cap (Nat.le_refl _) (Nat.le_refl _) rfl rfl | exact lb_capn (by assumption) (by (first | assumption | exact noIds_tab (fun _ => rfl) _ _ | exact noIds_encL (fun _ => rfl) _ | rfl)) | assumption), fun κ hκ => by (first | exact lb_dead | exact lb_same (by (first | assumption | exact noIds_tab (fun _ => rfl) _ _ | exact noIds_encL (fun _ => rfl) _ | rfl)) | exact lb_ro (by (first | assumption | exact noIds_tab (fun _ => rfl) _ _ | exact noIds_encL (fun _ => rfl) _ | rfl)) | exact lb_none | exact lb_cells (by ((repeat refine lws_cons (by (first | exact lw_any | exact lw_int | exact lw_bool | exact lw_ptr rfl | exact lw_slo rfl | exact lw_nilp | exact lw_nils | exact lw_str | exact lw_slo_nils | exact lw_slo_sle | exact lw_sl rfl | exact lw_unb | exact lw_gptr | exact lw_noid rfl | exact lw_cap rfl (Nat.le_refl _) | exact lw_cap rfl (by omega) | assumption | exact lw_tup (by ((repeat refine lws_cons (by (first | exact lw_any | exact lw_int | exact lw_bool | exact lw_ptr rfl | exact lw_slo rfl | exact lw_nilp | exact lw_nils | exact lw_str | exact lw_slo_nils | exact lw_slo_sle | exact lw_sl rfl | exact lw_unb | exact lw_gptr | exact lw_noid rfl | exact lw_cap rfl (Nat.le_refl _) | exact lw_cap rfl (by omega) | assumption)) ?_); exact lws_nil)))) ?_); exact lws_nil)) (by simp) | exact lb_iter | exact lb_cap (Nat.le_refl _) (Nat.le_refl _) rfl rfl | exact lb_capn (by assumption) (by (first | assumption | exact noIds_tab (fun _ => rfl) _ _ | exact noIds_encL (fun _ => rfl) _ | rfl)) | assumption)⟩, ⟨there hfr hb1, _, hb1, by (first | exact lb_dead | exact lb_same (by (first | assumption | exact noIds_tab (fun _ => rfl) _ _ | exact noIds_encL (fun _ => rfl) _ | rfl)) | exact lb_ro (by (first | assumption | exact noIds_tab (fun _ => rfl) _ _ | exact noIds_encL (fun _ => rfl) _ | rfl)) | exact lb_none | exact lb_cells (by ((repeat refine lws_cons (by (first | exact lw_any | exact lw_int | exact lw_bool | exact lw_ptr rfl | exact lw_slo rfl | exact lw_nilp | exact lw_nils | exact lw_str | exact lw_slo_nils | exact lw_slo_sle | exact lw_sl rfl | exact lw_unb | exact lw_gptr | exact lw_noid rfl | exact lw_cap rfl (Nat.le_refl _) | exact lw_cap rfl (by omega) | assumption | exact lw_tup (by ((repeat refine lws_cons (by (first | exact lw_any | exact lw_int | exact lw_bool | exact lw_ptr rfl | exact lw_slo rfl | exact lw_nilp | exact lw_nils | exact lw_str | exact lw_slo_nils | exact lw_slo_sle | exact lw_sl rfl | exact lw_unb | exact lw_gptr | exact lw_noid rfl | exact lw_cap rfl (Nat.le_refl _) | exact lw_cap rfl (by omega) | assumption)) ?_); exact lws_nil)))) ?_); exact lws_nil)) (by simp) | exact lb_iter | exact lb_cap (Nat.le_refl _) (Nat.le_refl _) rfl rfl | exact lb_capn (by assumption) (by (first | assumption | exact noIds_tab (fun _ => rfl) _ _ | exact noIds_encL (fun _ => rfl) _ | rfl)) | assumption), fun κ hκ => lb_cells (lws_cons (lw_int) (lws_cons (lw_sl (hκ 2 r rfl)) lws_nil)) (by simp)⟩, ⟨there hfr hb2, _, hb2, by (first | exact lb_dead | exact lb_same (by (first | assumption | exact noIds_tab (fun _ => rfl) _ _ | exact noIds_encL (fun _ => rfl) _ | rfl)) | exact lb_ro (by (first | assumption | exact noIds_tab (fun _ => rfl) _ _ | exact noIds_encL (fun _ => rfl) _ | rfl)) | exact lb_none | exact lb_cells (by ((repeat refine lws_cons (by (first | exact lw_any | exact lw_int | exact lw_bool | exact lw_ptr rfl | exact lw_slo rfl | exact lw_nilp | exact lw_nils | exact lw_str | exact lw_slo_nils | exact lw_slo_sle | exact lw_sl rfl | exact lw_unb | exact lw_gptr | exact lw_noid rfl | exact lw_cap rfl (Nat.le_refl _) | exact lw_cap rfl (by omega) | assumption | exact lw_tup (by ((repeat refine lws_cons (by (first | exact lw_any | exact lw_int | exact lw_bool | exact lw_ptr rfl | exact lw_slo rfl | exact lw_nilp | exact lw_nils | exact lw_str | exact lw_slo_nils | exact lw_slo_sle | exact lw_sl rfl | exact lw_unb | exact lw_gptr | exact lw_noid rfl | exact lw_cap rfl (Nat.le_refl _) | exact lw_cap rfl (by omega) | assumption)) ?_); exact lws_nil)))) ?_); exact lws_nil)) (by simp) | exact lb_iter | exact lb_cap (Nat.le_refl _) (Nat.le_refl _) rfl rfl | exact lb_capn (by assumption) (by (first | assumption | exact noIds_tab (fun _ => rfl) _ _ | exact noIds_encL (fun _ => rfl) _ | rfl)) | assumption), fun κ hκ => lb_cells (lws_cons (lw_ptr (hκ 3 v0 rfl)) lws_nil) (by simp)⟩, ⟨there hfr hb3, _, hb3, by (first | exact lb_dead | exact lb_same (by (first | assumption | exact noIds_tab (fun _ => rfl) _ _ | exact noIds_encL (fun _ => rfl) _ | rfl)) | exact lb_ro (by (first | assumption | exact noIds_tab (fun _ => rfl) _ _ | exact noIds_encL (fun _ => rfl) _ | rfl)) | exact lb_none | exact lb_cells (by ((repeat refine lws_cons (by (first | exact lw_any | exact lw_int | exact lw_bool | exact lw_ptr rfl | exact lw_slo rfl | exact lw_nilp | exact lw_nils | exact lw_str | exact lw_slo_nils | exact lw_slo_sle | exact lw_sl rfl | exact lw_unb | exact lw_gptr | exact lw_noid rfl | exact lw_cap rfl (Nat.le_refl _) | exact lw_cap rfl (by omega) | assumption | exact lw_tup (by ((repeat refine lws_cons (by (first | exact lw_any | exact lw_int | exact lw_bool | exact lw_ptr rfl | exact lw_slo rfl | exact lw_nilp | exact lw_nils | exact lw_str | exact lw_slo_nils | exact lw_slo_sle | exact lw_sl rfl | exact lw_unb | exact lw_gptr | exact lw_noid rfl | exact lw_cap rfl (Nat.le_refl _) | exact lw_cap rfl (by omega) | assumption)) ?_); exact lws_nil)))) ?_); exact lws_nil)) (by simp) | exact lb_iter | exact lb_cap (Nat.le_refl _) (Nat.le_refl _) rfl rfl | exact lb_capn (by assumption) (by (first | assumption | exact noIds_tab (fun _ => rfl) _ _ | exact noIds_encL (fun _ => rfl) _ | rfl)) | assumption), fun κ hκ => lb_cells (lws_cons (lw_ptr (hκ 4 w0 rfl)) (lws_cons (lw_slo (hκ 6 f0 rfl)) lws_nil)) (by simp)⟩, ⟨there hfr hb4, _, hb4, by (first | exact lb_dead | exact lb_same (by (first | assumption | exact noIds_tab (fun _ => rfl) _ _ | exact noIds_encL (fun _ => rfl) _ | rfl)) | exact lb_ro (by (first | assumption | exact noIds_tab (fun _ => rfl) _ _ | exact noIds_encL (fun _ => rfl) _ | rfl)) | exact lb_none | exact lb_cells (by ((repeat refine lws_cons (by (first | exact lw_any | exact lw_int | exact lw_bool | exact lw_ptr rfl | exact lw_slo rfl | exact lw_nilp | exact lw_nils | exact lw_str | exact lw_slo_nils | exact lw_slo_sle | exact lw_sl rfl | exact lw_unb | exact lw_gptr | exact lw_noid rfl | exact lw_cap rfl (Nat.le_refl _) | exact lw_cap rfl (by omega) | assumption | exact lw_tup (by ((repeat refine lws_cons (by (first | exact lw_any | exact lw_int | exact lw_bool | exact lw_ptr rfl | exact lw_slo rfl | exact lw_nilp | exact lw_nils | exact lw_str | exact lw_slo_nils | exact lw_slo_sle | exact lw_sl rfl | exact lw_unb | exact lw_gptr | exact lw_noid rfl | exact lw_cap rfl (Nat.le_refl _) | exact lw_cap rfl (by omega) | assumption)) ?_); exact lws_nil)))) ?_); exact lws_nil)) (by simp) | exact lb_iter | exact lb_cap (Nat.le_refl _) (Nat.le_refl _) rfl rfl | exact lb_capn (by assumption) (by (first | assumption | exact noIds_tab (fun _ => rfl) _ _ | exact noIds_encL (fun _ => rfl) _ | rfl)) | assumption), fun κ hκ => lb_cells (lws_cons (lw_int) (lws_cons (lw_slo (hκ 5 c0 rfl)) lws_nil)) (by simp)⟩, ⟨there hfr hb5, _, hb5, by (first | exact lb_dead | exact lb_same (by (first | assumption | exact noIds_tab (fun _ => rfl) _ _ | exact noIds_encL (fun _ => rfl) _ | rfl)) | exact lb_ro (by (first | assumption | exact noIds_tab (fun _ => rfl) _ _ | exact noIds_encL (fun _ => rfl) _ | rfl)) | exact lb_none | exact lb_cells (by ((repeat refine lws_cons (by (first | exact lw_any | exact lw_int | exact lw_bool | exact lw_ptr rfl | exact lw_slo rfl | exact lw_nilp | exact lw_nils | exact lw_str | exact lw_slo_nils | exact lw_slo_sle | exact lw_sl rfl | exact lw_unb | exact lw_gptr | exact lw_noid rfl | exact lw_cap rfl (Nat.le_refl _) | exact lw_cap rfl (by omega) | assumption | exact lw_tup (by ((repeat refine lws_cons (by (first | exact lw_any | exact lw_int | exact lw_bool | exact lw_ptr rfl | exact lw_slo rfl | exact lw_nilp | exact lw_nils | exact lw_str | exact lw_slo_nils | exact lw_slo_sle | exact lw_sl rfl | exact lw_unb | exact lw_gptr | exact lw_noid rfl | exact lw_cap rfl (Nat.le_refl _) | exact lw_cap rfl (by omega) | assumption)) ?_); exact lws_nil)))) ?_); exact lws_nil)) (by simp) | exact lb_iter | exact lb_cap (Nat.le_refl _) (Nat.le_refl _) rfl rfl | exact lb_capn (by assumption) (by (first | assumption | exact noIds_tab (fun _ => rfl) _ _ | exact noIds_encL (fun _ => rfl) _ | rfl)) | assumption), fun κ hκ => by (first | exact lb_dead | exact lb_same (by (first | assumption | exact noIds_tab (fun _ => rfl) _ _ | exact noIds_encL (fun _ => rfl) _ | rfl)) | exact lb_ro (by (first | assumption | exact noIds_tab (fun _ => rfl) _ _ | exact noIds_encL (fun _ => rfl) _ | rfl)) | exact lb_none | exact lb_cells (by ((repeat refine lws_cons (by (first | exact lw_any | exact lw_int | exact lw_bool | exact lw_ptr rfl | exact lw_slo rfl | exact lw_nilp | exact lw_nils | exact lw_str | exact lw_slo_nils | exact lw_slo_sle | exact lw_sl rfl | exact lw_unb | exact lw_gptr | exact lw_noid rfl | exact lw_cap rfl (Nat.le_refl _) | exact lw_cap rfl (by omega) | assumption | exact lw_tup (by ((repeat refine lws_cons (by (first | exact lw_any | exact lw_int | exact lw_bool | exact lw_ptr rfl | exact lw_slo rfl | exact lw_nilp | exact lw_nils | exact lw_str | exact lw_slo_nils | exact lw_slo_sle | exact lw_sl rfl | exact lw_unb | exact lw_gptr | exact lw_noid rfl | exact lw_cap rfl (Nat.le_refl _) | exact lw_cap rfl (by omega) | assumption)) ?_); exact lws_nil)))) ?_); exact lws_nil)) (by simp) | exact lb_iter | exact lb_cap (Nat.le_refl _) (Nat.le_refl _) rfl rfl | exact lb_capn (by assumption) (by (first | assumption | exact noIds_tab (fun _ => rfl) _ _ | exact noIds_encL (fun _ => rfl) _ | rfl)) | assumption)⟩, ⟨there hfr hb6, _, hb6, by (first | exact lb_dead | exact lb_same (by (first | assumption | exact noIds_tab (fun _ => rfl) _ _ | exact noIds_encL (fun _ => rfl) _ | rfl)) | exact lb_ro (by (first | assumption | exact noIds_tab (fun _ => rfl) _ _ | exact noIds_encL (fun _ => rfl) _ | rfl)) | exact lb_none | exact lb_cells (by ((repeat refine lws_cons (by (first | exact lw_any | exact lw_int | exact lw_bool | exact lw_ptr rfl | exact lw_slo rfl | exact lw_nilp | exact lw_nils | exact lw_str | exact lw_slo_nils | exact lw_slo_sle | exact lw_sl rfl | exact lw_unb | exact lw_gptr | exact lw_noid rfl | exact lw_cap rfl (Nat.le_refl _) | exact lw_cap rfl (by omega) | assumption | exact lw_tup (by ((repeat refine lws_cons (by (first | exact lw_any | exact lw_int | exact lw_bool | exact lw_ptr rfl | exact lw_slo rfl | exact lw_nilp | exact lw_nils | exact lw_str | exact lw_slo_nils | exact lw_slo_sle | exact lw_sl rfl | exact lw_unb | exact lw_gptr | exact lw_noid rfl | exact lw_cap rfl (Nat.le_refl _) | exact lw_cap rfl (by omega) | assumption)) ?_); exact lws_nil)))) ?_); exact lws_nil)) (by simp) | exact lb_iter | exact lb_cap (Nat.le_refl _) (Nat.le_refl _) rfl rfl | exact lb_capn (by assumption) (by (first | assumption | exact noIds_tab (fun _ => rfl) _ _ | exact noIds_encL (fun _ => rfl) _ | rfl)) | assumption), fun κ hκ => by (first | exact lb_dead | exact lb_same (by (first | assumption | exact noIds_tab (fun _ => rfl) _ _ | exact noIds_encL (fun _ => rfl) _ | rfl)) | exact lb_ro (by (first | assumption | exact noIds_tab (fun _ => rfl) _ _ | exact noIds_encL (fun _ => rfl) _ | rfl)) | exact lb_none | exact lb_cells (by ((repeat refine lws_cons (by (first | exact lw_any | exact lw_int | exact lw_bool | exact lw_ptr rfl | exact lw_slo rfl | exact lw_nilp | exact lw_nils | exact lw_str | exact lw_slo_nils | exact lw_slo_sle | exact lw_sl rfl | exact lw_unb | exact lw_gptr | exact lw_noid rfl | exact lw_cap rfl (Nat.le_refl _) | exact lw_cap rfl (by omega) | assumption | exact lw_tup (by ((repeat refine lws_cons (by (first | exact lw_any | exact lw_int | exact lw_bool | exact lw_ptr rfl | exact lw_slo rfl | exact lw_nilp | exact lw_nils | exact lw_str | exact lw_slo_nils | exact lw_slo_sle | exact lw_sl rfl | exact lw_unb | exact lw_gptr | exact lw_noid rfl | exact lw_cap rfl (Nat.le_refl _) | exact lw_cap rfl (by omega) | assumption)) ?_); exact lws_nil)))) ?_); exact lws_nil)) (by simp) | exact lb_iter | exact lb_cap (Nat.le_refl _) (Nat.le_refl _) rfl rfl | exact lb_capn (by assumption) (by (first | assumption | exact noIds_tab (fun _ => rfl) _ _ | exact noIds_encL (fun _ => rfl) _ | rfl)) | assumption)⟩, trivial⟩ (by ((repeat refine lws_cons (by (first | exact lw_any | exact lw_int | exact lw_bool | exact lw_ptr rfl | exact lw_slo rfl | exact lw_nilp | exact lw_nils | exact lw_str | exact lw_slo_nils | exact lw_slo_sle | exact lw_sl rfl | exact lw_unb | exact lw_gptr | exact lw_noid rfl | exact lw_cap rfl (Nat.le_refl _) | exact lw_cap rfl (by omega) | assumption | exact lw_tup (by ((repeat refine lws_cons (by (first | exact lw_any | exact lw_int | exact lw_bool | exact lw_ptr rfl | exact lw_slo rfl | exact lw_nilp | exact lw_nils | exact lw_str | exact lw_slo_nils | exact lw_slo_sle | exact lw_sl rfl | exact lw_unb | exact lw_gptr | exact lw_noid rfl | exact lw_cap rfl (Nat.le_refl _) | exact lw_cap rfl (by omega) | assumption)) ?_); exact lws_nil)))) ?_); exact lws_nil)) ?_
                        fun κ h1 h2 => ⟨⟨by (first | exact lb_dead | exact lb_same (by (first | assumption | exact noIds_tab (fun _ => rfl) _ _ | exact noIds_encL (fun _ => rfl) _ | rfl)) | exact lb_ro (by (first | assumption | exact noIds_tab (fun _ => rfl) _ _ | exact noIds_encL (fun _ => rfl) _ | rfl)) | exact lb_none | exact lb_cells (by ((repeat refine lws_cons (by (first | exact lw_any | exact lw_int | exact lw_bool | exact lw_ptr rfl | exact lw_slo rfl | exact lw_nilp | exact lw_nils | exact lw_str | exact lw_slo_nils | exact lw_slo_sle | exact lw_sl rfl | exact lw_unb | exact lw_gptr | exact lw_noid rfl | exact lw_cap rfl (Nat.le_refl _) | exact lw_cap rfl (by omega) | assumption | exact lw_tup (by ((repeat refine lws_cons (by (first | exact lw_any | exact lw_int | exact lw_bool | exact lw_ptr rfl | exact lw_slo rfl | exact lw_nilp | exact lw_nils | exact lw_str | exact lw_slo_nils | exact lw_slo_sle | exact lw_sl rfl | exact lw_unb | exact lw_gptr | exact lw_noid rfl | exact lw_cap rfl (Nat.le_refl _) | exact lw_cap rfl (by omega) | assumption)) ?_); exact lws_nil)))) ?_); exact lws_nil)) (by simp) | exact lb_iter | exact lb_cap (Nat.le_refl _) (Nat.le_refl _) rfl rfl | exact lb_capn (by assumption) (by (first | assumption | exact noIds_tab (fun _ => rfl) _ _ | exact noIds_encL (fun _ => rfl) _ | rfl)) | assumption), lb_cells (lws_cons (lw_int) (lws_cons (lw_sl (h1 2 r rfl)) lws_nil)) (by simp), lb_cells (lws_cons (lw_ptr (h1 3 v0 rfl)) lws_nil) (by simp), lb_cells (lws_cons (lw_ptr (h1 4 w0 rfl)) (lws_cons (lw_slo (h2 1 (by simp))) lws_nil)) (by simp), lb_cells (lws_cons (lw_int) (lws_cons (lw_slo (h2 0 (by simp))) lws_nil)) (by simp), lb_dead, lb_dead, lb_same (noids_ok (fg_okC ax nx k2 k3 k4 k5)), lb_same (okFr_noids (fg_okF ax nx k2 k3 k4 k5)), trivial⟩, lw_bool⟩
                      rw [hgl]; exact fgt_ok nx ax n0 fn0 cs0 fs0 k1 k2 k3 k4 k5
                    · cases hg
                · cases hg
              · cases hg
            · cases hg
          · cases hg
        · cases hg
      · cases hg
    · cases hg
  · cases hg
end
end Go.Lev
