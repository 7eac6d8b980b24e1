/- ArenaClasses: the walk of the law. -/

import Derived.Test.YtjmamnpfcjpalaaRows
import Derived.Test.YtjmamnpfcjpalaaLew
import Derived.WalkKit
import Derived.ProofKit
import Derived.OpenShut
import Derived.ShutString
import Derived.ChangeOld
import Derived.Below
import Derived.Lib.Hide
import Derived.BigQuiet
import Derived.Deep.QuietTactic
import Derived.Outline
import Derived.Handy
import Derived.Laws.OwnMore
namespace Go.Proofs.Ytjmamnpfcjpalaa
open Go.ChangeShapes Go.WideShapes Go.ChangeAt Go.RowKit
open Go.ChangeMaps (open_string shut_string)
set_option linter.unusedVariables false
theorem runs_any (w : World) : Calls Try.prog 4 #[] w fun e w' => e = .returned (.bool true) ∧ Below w.heap.size w w' :=
  Go.Lev.run_true (P := Try.prog) (fuel := 5000) (by kernel_rfl) w
theorem size_no (n : Int) (w : World) (h : n < 1 ∨ 4 < n) : Calls Try.prog 6 #[.int .i64 n] w fun e w' => e = .returned (.int .i64 0) ∧ w = w' := by
  rcases h with h | h
  · go_enter Try.func6, Try.ntmps6
    go_wp2
    go_ret
    exact ⟨rfl, rfl⟩
  · have h1 : decide (n < 1) = false := decide_eq_false (by omega)
    go_enter Try.func6, Try.ntmps6
    go_wp2
    go_ret
    exact ⟨rfl, rfl⟩
theorem size_1 (w : World) : Calls Try.prog 6 #[.int .i64 1] w fun e w' => e = .returned (.int .i64 2) ∧ w = w' := by
  go_enter Try.func6, Try.ntmps6
  go_wp2
  go_ret
  exact ⟨rfl, rfl⟩
theorem size_2 (w : World) : Calls Try.prog 6 #[.int .i64 2] w fun e w' => e = .returned (.int .i64 4) ∧ w = w' := by
  go_enter Try.func6, Try.ntmps6
  go_wp2
  go_ret
  exact ⟨rfl, rfl⟩
theorem size_3 (w : World) : Calls Try.prog 6 #[.int .i64 3] w fun e w' => e = .returned (.int .i64 8) ∧ w = w' := by
  go_enter Try.func6, Try.ntmps6
  go_wp2
  go_ret
  exact ⟨rfl, rfl⟩
theorem size_4 (w : World) : Calls Try.prog 6 #[.int .i64 4] w fun e w' => e = .returned (.int .i64 16) ∧ w = w' := by
  go_enter Try.func6, Try.ntmps6
  go_wp2
  go_ret
  exact ⟨rfl, rfl⟩
set_option maxHeartbeats 1000000 in
theorem class_c0a (n : Int) (w : World) (h : n < 1) : Calls Try.prog 5 #[.int .i64 n] w fun e w' => e = .returned (.int .i64 0) ∧ w = w' := by
  go_enter Try.func5, Try.ntmps5
  go_wp2
  go_ret
  exact ⟨rfl, rfl⟩
set_option maxHeartbeats 1000000 in
theorem class_c1 (n : Int) (w : World) (h : 1 ≤ n ∧ n ≤ 2) : Calls Try.prog 5 #[.int .i64 n] w fun e w' => e = .returned (.int .i64 1) ∧ w = w' := by
  have p1 : decide (n < 1) = false := decide_eq_false (by omega)
  have q1 : n ≤ 2 := by omega
  clear h
  go_enter Try.func5, Try.ntmps5
  go_wp2
  refine wp_loop_rounds 1 ?_
  repeat any_goals (rw [rounds_succ]; go_wp2_with (first | (go_at_call 6; (with_reducible refine (size_1 _).mono ?_); rintro e w' ⟨rfl, rfl⟩) | (go_at_call 6; (with_reducible refine (size_2 _).mono ?_); rintro e w' ⟨rfl, rfl⟩) | (go_at_call 6; (with_reducible refine (size_3 _).mono ?_); rintro e w' ⟨rfl, rfl⟩) | (go_at_call 6; (with_reducible refine (size_4 _).mono ?_); rintro e w' ⟨rfl, rfl⟩)))
  go_ret
  exact ⟨rfl, rfl⟩
set_option maxHeartbeats 1000000 in
theorem class_c2 (n : Int) (w : World) (h : 3 ≤ n ∧ n ≤ 4) : Calls Try.prog 5 #[.int .i64 n] w fun e w' => e = .returned (.int .i64 2) ∧ w = w' := by
  have p1 : decide (n < 1) = false := decide_eq_false (by omega)
  have q1 : decide (n ≤ 2) = false := decide_eq_false (by omega)
  have q2 : n ≤ 4 := by omega
  clear h
  go_enter Try.func5, Try.ntmps5
  go_wp2
  refine wp_loop_rounds 2 ?_
  repeat any_goals (rw [rounds_succ]; go_wp2_with (first | (go_at_call 6; (with_reducible refine (size_1 _).mono ?_); rintro e w' ⟨rfl, rfl⟩) | (go_at_call 6; (with_reducible refine (size_2 _).mono ?_); rintro e w' ⟨rfl, rfl⟩) | (go_at_call 6; (with_reducible refine (size_3 _).mono ?_); rintro e w' ⟨rfl, rfl⟩) | (go_at_call 6; (with_reducible refine (size_4 _).mono ?_); rintro e w' ⟨rfl, rfl⟩)))
  go_ret
  exact ⟨rfl, rfl⟩
set_option maxHeartbeats 1000000 in
theorem class_c3 (n : Int) (w : World) (h : 5 ≤ n ∧ n ≤ 8) : Calls Try.prog 5 #[.int .i64 n] w fun e w' => e = .returned (.int .i64 3) ∧ w = w' := by
  have p1 : decide (n < 1) = false := decide_eq_false (by omega)
  have q1 : decide (n ≤ 2) = false := decide_eq_false (by omega)
  have q2 : decide (n ≤ 4) = false := decide_eq_false (by omega)
  have q3 : n ≤ 8 := by omega
  clear h
  go_enter Try.func5, Try.ntmps5
  go_wp2
  refine wp_loop_rounds 3 ?_
  repeat any_goals (rw [rounds_succ]; go_wp2_with (first | (go_at_call 6; (with_reducible refine (size_1 _).mono ?_); rintro e w' ⟨rfl, rfl⟩) | (go_at_call 6; (with_reducible refine (size_2 _).mono ?_); rintro e w' ⟨rfl, rfl⟩) | (go_at_call 6; (with_reducible refine (size_3 _).mono ?_); rintro e w' ⟨rfl, rfl⟩) | (go_at_call 6; (with_reducible refine (size_4 _).mono ?_); rintro e w' ⟨rfl, rfl⟩)))
  go_ret
  exact ⟨rfl, rfl⟩
set_option maxHeartbeats 1000000 in
theorem class_c4 (n : Int) (w : World) (h : 9 ≤ n ∧ n ≤ 16) : Calls Try.prog 5 #[.int .i64 n] w fun e w' => e = .returned (.int .i64 4) ∧ w = w' := by
  have p1 : decide (n < 1) = false := decide_eq_false (by omega)
  have q1 : decide (n ≤ 2) = false := decide_eq_false (by omega)
  have q2 : decide (n ≤ 4) = false := decide_eq_false (by omega)
  have q3 : decide (n ≤ 8) = false := decide_eq_false (by omega)
  have q4 : n ≤ 16 := by omega
  clear h
  go_enter Try.func5, Try.ntmps5
  go_wp2
  refine wp_loop_rounds 4 ?_
  repeat any_goals (rw [rounds_succ]; go_wp2_with (first | (go_at_call 6; (with_reducible refine (size_1 _).mono ?_); rintro e w' ⟨rfl, rfl⟩) | (go_at_call 6; (with_reducible refine (size_2 _).mono ?_); rintro e w' ⟨rfl, rfl⟩) | (go_at_call 6; (with_reducible refine (size_3 _).mono ?_); rintro e w' ⟨rfl, rfl⟩) | (go_at_call 6; (with_reducible refine (size_4 _).mono ?_); rintro e w' ⟨rfl, rfl⟩)))
  go_ret
  exact ⟨rfl, rfl⟩
set_option maxHeartbeats 1000000 in
theorem class_c0b (n : Int) (w : World) (h : 16 < n) : Calls Try.prog 5 #[.int .i64 n] w fun e w' => e = .returned (.int .i64 0) ∧ w = w' := by
  have p1 : decide (n < 1) = false := decide_eq_false (by omega)
  have q1 : decide (n ≤ 2) = false := decide_eq_false (by omega)
  have q2 : decide (n ≤ 4) = false := decide_eq_false (by omega)
  have q3 : decide (n ≤ 8) = false := decide_eq_false (by omega)
  have q4 : decide (n ≤ 16) = false := decide_eq_false (by omega)
  clear h
  go_enter Try.func5, Try.ntmps5
  go_wp2
  refine wp_loop_rounds 5 ?_
  repeat any_goals (rw [rounds_succ]; go_wp2_with (first | (go_at_call 6; (with_reducible refine (size_1 _).mono ?_); rintro e w' ⟨rfl, rfl⟩) | (go_at_call 6; (with_reducible refine (size_2 _).mono ?_); rintro e w' ⟨rfl, rfl⟩) | (go_at_call 6; (with_reducible refine (size_3 _).mono ?_); rintro e w' ⟨rfl, rfl⟩) | (go_at_call 6; (with_reducible refine (size_4 _).mono ?_); rintro e w' ⟨rfl, rfl⟩)))
  go_ret
  exact ⟨rfl, rfl⟩
set_option maxHeartbeats 4000000 in
theorem classes_law (n : Int) (w : World) : Calls Try.prog 3 #[.int .i64 n] w fun e w' => e = .returned (.bool true) ∧ Below w.heap.size w w' := by
  rcases Int.lt_or_le n 1 with h | h
  · have HC := Lib.hid (fun w => class_c0a n w h)
    have HS := Lib.hid (fun w => size_no n w (.inl h))
    have g1 : decide (1 ≤ n) = false := decide_eq_false (by omega)
    go_enter Try.func3, Try.ntmps3
    go_wp2_with (first | (go_at_call 4; (with_reducible refine (runs_any _).mono ?_); rintro e w1 ⟨rfl, hb1⟩; have B1 : Below w.heap.size w w1 := (by refine Below.trans ?_ (hb1.mono (by first | (simp; done) | (have := (Below.refl 0 w).size; simp; omega))); repeat (first | exact Below.refl _ _ | assumption | refine Below.setCell ?_ (by first | (simp; done) | (have := (Below.refl 0 w).size; simp; omega)) _ | refine Below.alloc ?_ (by first | (simp; done) | (have := (Below.refl 0 w).size; simp; omega)) _ | refine Below.drew ?_)); clear hb1) | (go_at_call 5; (with_reducible refine (HC.out _).mono ?_); rintro e w' ⟨rfl, rfl⟩) | (go_at_call 6; (with_reducible refine (HS.out _).mono ?_); rintro e w' ⟨rfl, rfl⟩) | (go_at_call 6; (with_reducible refine (size_1 _).mono ?_); rintro e w' ⟨rfl, rfl⟩) | (go_at_call 6; (with_reducible refine (size_2 _).mono ?_); rintro e w' ⟨rfl, rfl⟩) | (go_at_call 6; (with_reducible refine (size_3 _).mono ?_); rintro e w' ⟨rfl, rfl⟩) | (go_at_call 6; (with_reducible refine (size_4 _).mono ?_); rintro e w' ⟨rfl, rfl⟩))
    go_ret
    exact ⟨rfl, B1⟩
  · have p1 : decide (n < 1) = false := decide_eq_false (by omega)
    rcases Int.lt_or_le 16 n with h2 | h2
    · have HC := Lib.hid (fun w => class_c0b n w h2)
      have HS := Lib.hid (fun w => size_no n w (.inr (by omega)))
      have g1 : decide (n ≤ 4) = false := decide_eq_false (by omega)
      go_enter Try.func3, Try.ntmps3
      go_wp2_with (first | (go_at_call 4; (with_reducible refine (runs_any _).mono ?_); rintro e w1 ⟨rfl, hb1⟩; have B1 : Below w.heap.size w w1 := (by refine Below.trans ?_ (hb1.mono (by first | (simp; done) | (have := (Below.refl 0 w).size; simp; omega))); repeat (first | exact Below.refl _ _ | assumption | refine Below.setCell ?_ (by first | (simp; done) | (have := (Below.refl 0 w).size; simp; omega)) _ | refine Below.alloc ?_ (by first | (simp; done) | (have := (Below.refl 0 w).size; simp; omega)) _ | refine Below.drew ?_)); clear hb1) | (go_at_call 5; (with_reducible refine (HC.out _).mono ?_); rintro e w' ⟨rfl, rfl⟩) | (go_at_call 6; (with_reducible refine (HS.out _).mono ?_); rintro e w' ⟨rfl, rfl⟩) | (go_at_call 6; (with_reducible refine (size_1 _).mono ?_); rintro e w' ⟨rfl, rfl⟩) | (go_at_call 6; (with_reducible refine (size_2 _).mono ?_); rintro e w' ⟨rfl, rfl⟩) | (go_at_call 6; (with_reducible refine (size_3 _).mono ?_); rintro e w' ⟨rfl, rfl⟩) | (go_at_call 6; (with_reducible refine (size_4 _).mono ?_); rintro e w' ⟨rfl, rfl⟩))
      go_ret
      exact ⟨rfl, B1⟩
    · have p2 : decide (16 < n) = false := decide_eq_false (by omega)
      have HS := Lib.hid (fun w => size_no 0 w (.inl (by decide)))
      rcases (show (1 ≤ n ∧ n ≤ 2) ∨ (3 ≤ n ∧ n ≤ 4) ∨ (5 ≤ n ∧ n ≤ 8) ∨ (9 ≤ n ∧ n ≤ 16) by omega) with h3 | h3 | h3 | h3
      · have HC := Lib.hid (fun w => class_c1 n w h3)
        have r1 : n ≤ 2 := h3.2
        have r2 : 0 < n := by omega
        clear h3
        go_enter Try.func3, Try.ntmps3
        go_wp2_with (first | (go_at_call 4; (with_reducible refine (runs_any _).mono ?_); rintro e w1 ⟨rfl, hb1⟩; have B1 : Below w.heap.size w w1 := (by refine Below.trans ?_ (hb1.mono (by first | (simp; done) | (have := (Below.refl 0 w).size; simp; omega))); repeat (first | exact Below.refl _ _ | assumption | refine Below.setCell ?_ (by first | (simp; done) | (have := (Below.refl 0 w).size; simp; omega)) _ | refine Below.alloc ?_ (by first | (simp; done) | (have := (Below.refl 0 w).size; simp; omega)) _ | refine Below.drew ?_)); clear hb1) | (go_at_call 5; (with_reducible refine (HC.out _).mono ?_); rintro e w' ⟨rfl, rfl⟩) | (go_at_call 6; (with_reducible refine (HS.out _).mono ?_); rintro e w' ⟨rfl, rfl⟩) | (go_at_call 6; (with_reducible refine (size_1 _).mono ?_); rintro e w' ⟨rfl, rfl⟩) | (go_at_call 6; (with_reducible refine (size_2 _).mono ?_); rintro e w' ⟨rfl, rfl⟩) | (go_at_call 6; (with_reducible refine (size_3 _).mono ?_); rintro e w' ⟨rfl, rfl⟩) | (go_at_call 6; (with_reducible refine (size_4 _).mono ?_); rintro e w' ⟨rfl, rfl⟩))
        go_ret
        exact ⟨rfl, B1⟩
      · have HC := Lib.hid (fun w => class_c2 n w h3)
        have r1 : n ≤ 4 := h3.2
        have r2 : 2 < n := by omega
        clear h3
        go_enter Try.func3, Try.ntmps3
        go_wp2_with (first | (go_at_call 4; (with_reducible refine (runs_any _).mono ?_); rintro e w1 ⟨rfl, hb1⟩; have B1 : Below w.heap.size w w1 := (by refine Below.trans ?_ (hb1.mono (by first | (simp; done) | (have := (Below.refl 0 w).size; simp; omega))); repeat (first | exact Below.refl _ _ | assumption | refine Below.setCell ?_ (by first | (simp; done) | (have := (Below.refl 0 w).size; simp; omega)) _ | refine Below.alloc ?_ (by first | (simp; done) | (have := (Below.refl 0 w).size; simp; omega)) _ | refine Below.drew ?_)); clear hb1) | (go_at_call 5; (with_reducible refine (HC.out _).mono ?_); rintro e w' ⟨rfl, rfl⟩) | (go_at_call 6; (with_reducible refine (HS.out _).mono ?_); rintro e w' ⟨rfl, rfl⟩) | (go_at_call 6; (with_reducible refine (size_1 _).mono ?_); rintro e w' ⟨rfl, rfl⟩) | (go_at_call 6; (with_reducible refine (size_2 _).mono ?_); rintro e w' ⟨rfl, rfl⟩) | (go_at_call 6; (with_reducible refine (size_3 _).mono ?_); rintro e w' ⟨rfl, rfl⟩) | (go_at_call 6; (with_reducible refine (size_4 _).mono ?_); rintro e w' ⟨rfl, rfl⟩))
        go_ret
        exact ⟨rfl, B1⟩
      · have HC := Lib.hid (fun w => class_c3 n w h3)
        have r1 : n ≤ 8 := h3.2
        have r2 : 4 < n := by omega
        clear h3
        go_enter Try.func3, Try.ntmps3
        go_wp2_with (first | (go_at_call 4; (with_reducible refine (runs_any _).mono ?_); rintro e w1 ⟨rfl, hb1⟩; have B1 : Below w.heap.size w w1 := (by refine Below.trans ?_ (hb1.mono (by first | (simp; done) | (have := (Below.refl 0 w).size; simp; omega))); repeat (first | exact Below.refl _ _ | assumption | refine Below.setCell ?_ (by first | (simp; done) | (have := (Below.refl 0 w).size; simp; omega)) _ | refine Below.alloc ?_ (by first | (simp; done) | (have := (Below.refl 0 w).size; simp; omega)) _ | refine Below.drew ?_)); clear hb1) | (go_at_call 5; (with_reducible refine (HC.out _).mono ?_); rintro e w' ⟨rfl, rfl⟩) | (go_at_call 6; (with_reducible refine (HS.out _).mono ?_); rintro e w' ⟨rfl, rfl⟩) | (go_at_call 6; (with_reducible refine (size_1 _).mono ?_); rintro e w' ⟨rfl, rfl⟩) | (go_at_call 6; (with_reducible refine (size_2 _).mono ?_); rintro e w' ⟨rfl, rfl⟩) | (go_at_call 6; (with_reducible refine (size_3 _).mono ?_); rintro e w' ⟨rfl, rfl⟩) | (go_at_call 6; (with_reducible refine (size_4 _).mono ?_); rintro e w' ⟨rfl, rfl⟩))
        go_ret
        exact ⟨rfl, B1⟩
      · have HC := Lib.hid (fun w => class_c4 n w h3)
        have r1 : n ≤ 16 := h3.2
        have r2 : 8 < n := by omega
        clear h3
        go_enter Try.func3, Try.ntmps3
        go_wp2_with (first | (go_at_call 4; (with_reducible refine (runs_any _).mono ?_); rintro e w1 ⟨rfl, hb1⟩; have B1 : Below w.heap.size w w1 := (by refine Below.trans ?_ (hb1.mono (by first | (simp; done) | (have := (Below.refl 0 w).size; simp; omega))); repeat (first | exact Below.refl _ _ | assumption | refine Below.setCell ?_ (by first | (simp; done) | (have := (Below.refl 0 w).size; simp; omega)) _ | refine Below.alloc ?_ (by first | (simp; done) | (have := (Below.refl 0 w).size; simp; omega)) _ | refine Below.drew ?_)); clear hb1) | (go_at_call 5; (with_reducible refine (HC.out _).mono ?_); rintro e w' ⟨rfl, rfl⟩) | (go_at_call 6; (with_reducible refine (HS.out _).mono ?_); rintro e w' ⟨rfl, rfl⟩) | (go_at_call 6; (with_reducible refine (size_1 _).mono ?_); rintro e w' ⟨rfl, rfl⟩) | (go_at_call 6; (with_reducible refine (size_2 _).mono ?_); rintro e w' ⟨rfl, rfl⟩) | (go_at_call 6; (with_reducible refine (size_3 _).mono ?_); rintro e w' ⟨rfl, rfl⟩) | (go_at_call 6; (with_reducible refine (size_4 _).mono ?_); rintro e w' ⟨rfl, rfl⟩))
        go_ret
        exact ⟨rfl, B1⟩
end Go.Proofs.Ytjmamnpfcjpalaa
