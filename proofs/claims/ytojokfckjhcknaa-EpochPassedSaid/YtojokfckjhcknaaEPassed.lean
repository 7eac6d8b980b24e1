/- EpochPassed: the walk of the law. -/

import Derived.Test.YtojokfckjhcknaaEpochB
import Derived.Deep.Slices
import Derived.Deep.Fields
import Derived.ChangeSame
namespace Go.Proofs.Ytojokfckjhcknaa
open Go.ChangeShapes Go.WideShapes Go.ChangeAt Go.RowKit
open Go.ChangeMaps (open_string shut_string)
set_option linter.unusedVariables false
theorem psd_mono {ws : Nat → Int} {a b : Int} (hab : a ≤ b) : ∀ {n : Nat}, psd ws b n = true → psd ws a n = true
  | 0, _ => rfl
  | n + 1, h => by
    simp only [psd, Bool.and_eq_true, Bool.or_eq_true, decide_eq_true_eq] at h ⊢
    exact ⟨psd_mono hab h.1, h.2.imp id (fun h => by omega)⟩
set_option maxRecDepth 100000 in
set_option maxHeartbeats 2000000 in
theorem epassed_row (b off n cap : Nat) (ws : Nat → Int) (x y : Int) (w : World) (hlt : b < w.heap.size) (hn : n ≤ 1000) (hb : ∀ i, i < n → 0 ≤ ws i) (hx : 0 ≤ x) (hy : 0 ≤ y) (hc : ∀ i, i < n → w.cell? ⟨b, off + i, none⟩ = some (.int .u64 (ws i))) :
    Calls Try.prog 5 #[.slice (some ⟨b, off, none⟩) n cap, .int .u64 x, .int .u64 y] w fun e w' => e = .returned (.bool true) ∧ Below w.heap.size w w' := by
  have HC := Lib.hid hc
  have HB := Lib.hid hb
  clear hc hb
  have hn0 : ((n : Nat) : Int) ≤ 1000 := by omega
  have hn1 : decide ((1000 : Int) < (n : Int)) = false := by simp; omega
  go_enter Try.func5, Try.ntmps5
  go_wp2_with (first | (go_at_call 3; (with_reducible refine (runs_any _).mono ?_); rintro e w1 ⟨rfl, hb1⟩; have B1 : Below w.heap.size w w1 := (by refine Below.trans ?_ (hb1.mono (by first | (simp; done) | (have := (Below.refl 0 w).size; simp; omega))); repeat (first | exact Below.refl _ _ | assumption | refine Below.setCell ?_ (by first | (simp; done) | (have := (Below.refl 0 w).size; simp; omega)) _ | refine Below.alloc ?_ (by first | (simp; done) | (have := (Below.refl 0 w).size; simp; omega)) _ | refine Below.drew ?_)); clear hb1))
  have HC1 : Hid (∀ i, i < n → w1.cell? ⟨b, off + i, none⟩ = some (.int .u64 (ws i))) := fun i hi => (B1.cell hlt).trans (HC.out i hi)
  have R1 := Lib.hid (passed_row b off n cap ws x w1 (by omega) HB.out hx HC1.out)
  have R2 := Lib.hid (passed_row b off n cap ws y w1 (by omega) HB.out hy HC1.out)
  go_wp2_with fail
  refine R1.out.mono ?_
  rintro e w' ⟨rfl, rfl⟩
  go_wp2_with fail
  refine R2.out.mono ?_
  rintro e w' ⟨rfl, rfl⟩
  go_wp2_with fail
  go_loop [9, 10] (fun u9 u10 => ∃ k : Nat, k ≤ n ∧ u9 = .bool (!psd ws x k) ∧ u10 = .int .i64 k) (fun _ u => n - (intOf u).toNat)
  case atStart => exact ⟨0, by omega, rfl, rfl⟩
  case round =>
    obtain ⟨k, hk, rfl, rfl⟩ := hrel
    by_cases hltk : k < n
    · have hc := HC1.out k hltk
      have hb := HB.out k hltk
      obtain ⟨v, hv⟩ : ∃ v, ws k = v := ⟨_, rfl⟩
      rw [hv] at hc hb
      have HX := Lib.hid hv
      clear hv
      have hki : (k : Int) < (n : Int) := by omega
      cases hp : psd ws x k
      · have HP := Lib.hid hp
        clear hp
        simp only [Bool.not_false]
        go_wp2
        go_round
        case rel => exact ⟨k + 1, by omega, by simp [psd, HP.out], by go_num⟩
        case measure => simp [intOf]; omega
      · have HP := Lib.hid hp
        clear hp
        simp only [Bool.not_true]
        by_cases h0 : v = 0
        · have e0 : (v != 0) = false := by simp [h0]
          have H0 := Lib.hid h0
          clear h0
          go_wp2
          go_round
          case rel => exact ⟨k + 1, by omega, by simp [psd, HP.out, HX.out, H0.out], by go_num⟩
          case measure => simp [intOf]; omega
        · have e0 : (v != 0) = true := by simp [h0]
          by_cases h1 : v ≤ x
          · have H0 := Lib.hid (And.intro h0 h1)
            have e1 : decide (v ≤ x) = true := by simpa using h1
            have h2 : decide (x < v) = false := by simp; omega
            have H2 := Lib.hid h2
            clear h0 h2
            go_wp2
            go_round
            case rel => exact ⟨k + 1, by omega, by simp [psd, HP.out, HX.out, H0.out.1, H2.out], by go_num⟩
            case measure => simp [intOf]; omega
          · have e1 : decide (v ≤ x) = false := by simpa using h1
            have e2 : x < v := by omega
            have H0 := Lib.hid (And.intro h0 e2)
            clear h0 h1 e2
            go_wp2
            go_round
            case rel => exact ⟨k + 1, by omega, by simp [psd, HP.out, HX.out, H0.out.2], by go_num⟩
            case measure => simp [intOf]; omega
    · obtain rfl : k = n := by omega
      have hl : decide ((k : Int) < (k : Int)) = false := by simp
      have hmono : x ≤ y → psd ws y k = true → psd ws x k = true := fun h => psd_mono h
      have HM := Lib.hid hmono
      clear hmono
      cases hpx : psd ws x k
      · cases hpy : psd ws y k
        · simp only [Bool.not_false]
          clear HM
          by_cases hxy : y < x
          · go_wp2_with (first | (go_at_call 14; (with_reducible refine (passed_empty _ _ _ _).mono ?_); rintro e w' ⟨rfl, rfl⟩))
            go_ret
            exact ⟨rfl, B1⟩
          · have hd : decide (y < x) = false := by simpa using hxy
            go_wp2_with (first | (go_at_call 14; (with_reducible refine (passed_empty _ _ _ _).mono ?_); rintro e w' ⟨rfl, rfl⟩))
            go_ret
            exact ⟨rfl, B1⟩
        · have hxy : y < x := by
            rcases Int.lt_or_le y x with h | h
            · exact h
            · have := HM.out h hpy; rw [hpx] at this; cases this
          clear HM
          simp only [Bool.not_false]
          go_wp2_with (first | (go_at_call 14; (with_reducible refine (passed_empty _ _ _ _).mono ?_); rintro e w' ⟨rfl, rfl⟩))
          go_ret
          exact ⟨rfl, B1⟩
      · simp only [Bool.not_true]
        clear HM
        by_cases hxy : y < x
        · go_wp2_with (first | (go_at_call 14; (with_reducible refine (passed_empty _ _ _ _).mono ?_); rintro e w' ⟨rfl, rfl⟩))
          go_ret
          exact ⟨rfl, B1⟩
        · have hd : decide (y < x) = false := by simpa using hxy
          cases hpy : psd ws y k
          · go_wp2_with (first | (go_at_call 14; (with_reducible refine (passed_empty _ _ _ _).mono ?_); rintro e w' ⟨rfl, rfl⟩))
            go_ret
            exact ⟨rfl, B1⟩
          · go_wp2_with (first | (go_at_call 14; (with_reducible refine (passed_empty _ _ _ _).mono ?_); rintro e w' ⟨rfl, rfl⟩))
            go_ret
            exact ⟨rfl, B1⟩
set_option maxHeartbeats 1000000 in
theorem epassed_long (a : Option Addr) (n cap : Nat) (x y : Int) (w : World) (hn : 1000 < n) (hm : n ≤ 9223372036854775807) :
    Calls Try.prog 5 #[.slice a n cap, .int .u64 x, .int .u64 y] w fun e w' => e = .returned (.bool true) ∧ Below w.heap.size w w' := by
  have hn0 : (1000 : Int) < ((n : Nat) : Int) := by omega
  go_enter Try.func5, Try.ntmps5
  go_wp2_with (first | (go_at_call 3; (with_reducible refine (runs_any _).mono ?_); rintro e w1 ⟨rfl, hb1⟩; have B1 : Below w.heap.size w w1 := (by refine Below.trans ?_ (hb1.mono (by first | (simp; done) | (have := (Below.refl 0 w).size; simp; omega))); repeat (first | exact Below.refl _ _ | assumption | refine Below.setCell ?_ (by first | (simp; done) | (have := (Below.refl 0 w).size; simp; omega)) _ | refine Below.alloc ?_ (by first | (simp; done) | (have := (Below.refl 0 w).size; simp; omega)) _ | refine Below.drew ?_)); clear hb1))
  go_ret
  exact ⟨rfl, B1⟩
set_option maxHeartbeats 1000000 in
theorem epassed_empty (a : Option Addr) (cap : Nat) (x y : Int) (w : World) :
    Calls Try.prog 5 #[.slice a 0 cap, .int .u64 x, .int .u64 y] w fun e w' => e = .returned (.bool true) ∧ Below w.heap.size w w' := by
  by_cases hxy : y < x
  · skip
    go_enter Try.func5, Try.ntmps5
    go_wp2_with (first | (go_at_call 3; (with_reducible refine (runs_any _).mono ?_); rintro e w1 ⟨rfl, hb1⟩; have B1 : Below w.heap.size w w1 := (by refine Below.trans ?_ (hb1.mono (by first | (simp; done) | (have := (Below.refl 0 w).size; simp; omega))); repeat (first | exact Below.refl _ _ | assumption | refine Below.setCell ?_ (by first | (simp; done) | (have := (Below.refl 0 w).size; simp; omega)) _ | refine Below.alloc ?_ (by first | (simp; done) | (have := (Below.refl 0 w).size; simp; omega)) _ | refine Below.drew ?_)); clear hb1))
    go_wp2_with (first | (go_at_call 14; (with_reducible refine (passed_empty _ _ _ _).mono ?_); rintro e w' ⟨rfl, rfl⟩))
    refine wp_loop_rounds 1 ?_
    rw [rounds_succ]
    go_wp2_with (first | (go_at_call 14; (with_reducible refine (passed_empty _ _ _ _).mono ?_); rintro e w' ⟨rfl, rfl⟩))
    go_ret
    exact ⟨rfl, B1⟩
  · have hd : decide (y < x) = false := by simpa using hxy
    go_enter Try.func5, Try.ntmps5
    go_wp2_with (first | (go_at_call 3; (with_reducible refine (runs_any _).mono ?_); rintro e w1 ⟨rfl, hb1⟩; have B1 : Below w.heap.size w w1 := (by refine Below.trans ?_ (hb1.mono (by first | (simp; done) | (have := (Below.refl 0 w).size; simp; omega))); repeat (first | exact Below.refl _ _ | assumption | refine Below.setCell ?_ (by first | (simp; done) | (have := (Below.refl 0 w).size; simp; omega)) _ | refine Below.alloc ?_ (by first | (simp; done) | (have := (Below.refl 0 w).size; simp; omega)) _ | refine Below.drew ?_)); clear hb1))
    go_wp2_with (first | (go_at_call 14; (with_reducible refine (passed_empty _ _ _ _).mono ?_); rintro e w' ⟨rfl, rfl⟩))
    refine wp_loop_rounds 1 ?_
    rw [rounds_succ]
    go_wp2_with (first | (go_at_call 14; (with_reducible refine (passed_empty _ _ _ _).mono ?_); rintro e w' ⟨rfl, rfl⟩))
    go_ret
    exact ⟨rfl, B1⟩
end Go.Proofs.Ytojokfckjhcknaa
