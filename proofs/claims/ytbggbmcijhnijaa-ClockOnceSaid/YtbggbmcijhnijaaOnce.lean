/- ClockOnce: the walk of the law. -/

import Derived.Test.YtbggbmcijhnijaaClock
namespace Go.Proofs.Ytbggbmcijhnijaa
open Go.ChangeShapes Go.WideShapes Go.ChangeAt Go.RowKit
open Go.ChangeMaps (open_string shut_string)
set_option linter.unusedVariables false
set_option maxRecDepth 100000 in
set_option maxHeartbeats 1000000 in
theorem once_any (s n : Int) (w : World) (h0 : 0 ≤ s) (h1 : s ≤ 4294967295) (n0 : 0 ≤ n) (n1 : n ≤ 255) : Calls Try.prog 6 #[.int .u32 s, .int .u8 n] w fun e w' => e = .returned (.bool true) ∧ Below w.heap.size w w' := by
  have ec : capC s = s := by simp [capC]; omega
  obtain ⟨q, hq⟩ : ∃ q : Int, n % 20 = q := ⟨_, rfl⟩
  have q0 : 0 ≤ q := by omega
  have q1 : q < 20 := by omega
  go_enter Try.func6, Try.ntmps6
  go_wp2_with (first | (go_at_call 3; (with_reducible refine (runs_any _).mono ?_); rintro e w1 ⟨rfl, hb1⟩; have B1 : Below w.heap.size w w1 := (by refine Below.trans ?_ (hb1.mono (by first | (simp; done) | (have := (Below.refl 0 w).size; simp; omega))); repeat (first | exact Below.refl _ _ | assumption | refine Below.setCell ?_ (by first | (simp; done) | (have := (Below.refl 0 w).size; simp; omega)) _ | refine Below.alloc ?_ (by first | (simp; done) | (have := (Below.refl 0 w).size; simp; omega)) _ | refine Below.drew ?_)); clear hb1))
  go_wp2_with (first | (go_at_call 8; (with_reducible refine (new_any _ _).mono ?_); rintro e w' ⟨rfl, rfl⟩))
  go_wp2_with (first | (go_at_call 10; (with_reducible refine (load_any _ s _ (by simp)).mono ?_); rintro e w' ⟨rfl, rfl⟩))
  go_loopw [8, 9] (fun u8 u9 wr => ∃ k : Nat, (k : Int) ≤ q ∧ u8 = .int .i64 k ∧ u9 = .int .i64 k ∧ wr = w1.alloc (.cells #[.int .u64 (s + k)] 49)) (fun _ i _ => (q - intOf i).toNat)
  case atStart => exact ⟨0, by omega, rfl, rfl, by simp⟩
  case round =>
    obtain ⟨k, hk, rfl, rfl, rfl⟩ := hrel
    by_cases hkq : (k : Int) < q
    · by_cases hk0 : k = 0
      · subst hk0
        have e0 : s + ((0 : Nat) : Int) = s := by omega
        rw [e0]
        clear e0
        have hD : casD s s (s + 1) = true := by simp [casD]; omega
        have HD := Lib.hid hD
        clear hD
        go_wp2_with (first | (go_at_call 9; (with_reducible refine (cas_yes _ s s (s + 1) _ (by simp) (by simp) HD.out).mono ?_); rintro e w' ⟨rfl, rfl⟩))
        go_roundw
        case rel => exact ⟨1, by omega, rfl, rfl, rfl⟩
        case measure => simp [intOf]; omega
      · have hkz : ((k : Int) == 0) = false := by simp; omega
        have hD : casD (s + k) s (s + 1) = false := by simp [casD]; omega
        have hE : casE s (s + 1) = 0 := by simp [casE]; omega
        have hD2 : casD (s + k) (s + k) (s + k + 1) = true := by simp [casD]; omega
        have HD := Lib.hid hD
        have HD2 := Lib.hid hD2
        clear hD hD2
        go_wp2_with (first | (go_at_call 9; (with_reducible refine (cas_no _ (s + k) s (s + 1) _ (by simp) HD.out).mono ?_); rintro e w' ⟨rfl, rfl⟩))
        go_wp2_with (first | (go_at_call 10; (with_reducible refine (load_any _ (s + k) _ (by simp)).mono ?_); rintro e w' ⟨rfl, rfl⟩))
        go_wp2_with (first | (go_at_call 9; (with_reducible refine (cas_yes _ (s + k) (s + k) (s + k + 1) _ (by simp) (by simp) HD2.out).mono ?_); rintro e w' ⟨rfl, rfl⟩))
        go_roundw
        case rel => exact ⟨k + 1, by omega, by go_num, by go_num, by simp [Int.add_assoc]⟩
        case measure => simp [intOf]; omega
    · obtain rfl : q = (k : Int) := by omega
      have hkk : ((k : Int) == k) = true := by simp
      go_wp2_with (first | (go_at_call 10; (with_reducible refine (load_any _ (s + k) _ (by simp)).mono ?_); rintro e w' ⟨rfl, rfl⟩))
      go_ret
      refine ⟨rfl, ?_⟩
      exact B1.alloc B1.size _
end Go.Proofs.Ytbggbmcijhnijaa
