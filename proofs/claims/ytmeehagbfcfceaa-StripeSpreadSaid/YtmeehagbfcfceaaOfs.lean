/- StripeOf, StripeSpread: the walks of the laws. -/

import Derived.Test.YtmeehagbfcfceaaStripeB
import Derived.Test.YtmeehagbfcfceaaRunsC
namespace Go.Proofs.Ytmeehagbfcfceaa
open Go.ChangeShapes Go.WideShapes Go.ChangeAt Go.RowKit
open Go.ChangeMaps (open_string shut_string)
set_option linter.unusedVariables false
def quietK (w w' : World) : Prop := ∃ k, w' = w.drewN k
set_option maxHeartbeats 1000000 in
theorem of_law (at' n wd : Int) (w : World) (hat : at' ≤ 9223372036854775807) : Calls Try.prog 5 #[.int .i64 at', .int .i64 n, .int .i64 wd] w fun e w' => e = .returned (.bool true) ∧ Below w.heap.size w w' := by
  have HB := Lib.hid (c16_bd n)
  have HO : Hid (∀ w : World, Calls Try.prog 19 #[.int .i64 at', .int .i64 n, .int .i64 wd] w fun e w' => e = .returned (.int .i64 (ofK at' n wd)) ∧ ∃ k, w' = w.drewN k) := fun w => of_any at' n wd w hat
  have HR : Hid (∀ w : World, Calls Try.prog 18 #[.int .i64 at', .int .i64 n, .int .i64 wd] w fun e w' => e = .returned (.int .i64 (ofK at' n wd)) ∧ ∃ k, w' = w.drewN k) := fun w => rof_any at' n wd w hat
  have HT : Hid (∀ w0 w : World, w.cell? ⟨w0.heap.size + 1, 0, none⟩ = (newT w0 n wd).cell? ⟨w0.heap.size + 1, 0, none⟩ → w.cell? ⟨w0.heap.size + 1, 1, none⟩ = (newT w0 n wd).cell? ⟨w0.heap.size + 1, 1, none⟩ → Calls Try.prog 13 #[ptr (w0.heap.size + 1), .int .i64 at'] w fun e w' => e = .returned (.int .i64 (ofK at' n wd)) ∧ ∃ k, w' = w.drewN k) := fun w0 w h0 h1 => by
    have q := tab_newT w0 n wd
    obtain ⟨c, hc⟩ := q.c1
    have := tof_any (w0.heap.size + 1) w0.heap.size (c16 n).toNat (c16 wd) at' w hat (h0.trans q.c0) (h1.trans hc)
    have hb := c16_bd n
    have e : ofK at' ((c16 n).toNat : Int) (c16 wd) = ofK at' n wd := by rw [Int.toNat_of_nonneg (by omega)]; unfold ofK; rw [c16_c16, c16_c16]
    rwa [e] at this
  generalize ofK at' n wd = x at *
  have hxx : (x == x) = true := by simp
  have NT : Hid (∀ w0 : World, Below w0.heap.size w0 (newT w0 n wd)) := fun w0 => below_newT w0 n wd
  go_enter Try.func5, Try.ntmps5
  go_wp2_with (first | (go_at_call 3; (with_reducible refine (runs_any _).mono ?_); rintro e w1 ⟨rfl, hb1⟩; have B1 : Below w.heap.size w w1 := (by refine Below.trans ?_ (hb1.mono (by first | (simp; done) | (have := (Below.refl 0 w).size; simp; omega))); repeat (first | exact Below.refl _ _ | assumption | refine Below.setCell ?_ (by first | (simp; done) | (have := (Below.refl 0 w).size; simp; omega)) _ | refine Below.alloc ?_ (by first | (simp; done) | (have := (Below.refl 0 w).size; simp; omega)) _ | refine Below.drew ?_)); clear hb1))
  go_wp2_with fail
  refine (new_any _ _ _).mono ?_
  rintro e w0 ⟨rfl, hw0⟩
  have B0 : Below w.heap.size w w0 := by rw [hw0]; exact B1.trans ((NT.out w1).mono B1.size)
  have HTT : Hid (Calls Try.prog 13 #[ptr (w1.heap.size + 1), .int .i64 at'] w0 fun e w' => e = .returned (.int .i64 x) ∧ ∃ m, w' = w0.drewN m) := HT.out w1 w0 (by rw [hw0]) (by rw [hw0])
  clear hw0
  go_wp2_with (first | (go_at_call 13; (with_reducible refine HTT.out.mono ?_); rintro e w' ⟨rfl, k1, rfl⟩) | (go_at_call 19; (with_reducible refine (HO.out _).mono ?_); rintro e w' ⟨rfl, k2, rfl⟩) | (go_at_call 18; (with_reducible refine (HR.out _).mono ?_); rintro e w' ⟨rfl, k3, rfl⟩))
  go_wp2
  go_ret
  exact ⟨rfl, below_drewN B0 _⟩
end Go.Proofs.Ytmeehagbfcfceaa
