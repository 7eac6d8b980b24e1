/- ClockRises: the walk of the law. -/

import Derived.Test.YtbggbmcijhnijaaClock
import Derived.Deep.RegionHeld3
namespace Go.Proofs.Ytbggbmcijhnijaa
open Go.ChangeShapes Go.WideShapes Go.ChangeAt Go.RowKit
open Go.ChangeMaps (open_string shut_string)
set_option linter.unusedVariables false
/-- A row of asks in memory: a flag, two words, a byte. -/
structure Asks (w : World) (b off len : Nat) (T : Nat → Bool) (O N M : Nat → Int) : Prop where
  lt : b < w.heap.size
  ct : ∀ i, i < len → w.cell? ⟨b, off + i * 4, none⟩ = some (.bool (T i))
  co : ∀ i, i < len → w.cell? ⟨b, off + i * 4 + 1, none⟩ = some (.int .u64 (O i))
  cn : ∀ i, i < len → w.cell? ⟨b, off + i * 4 + 2, none⟩ = some (.int .u64 (N i))
  cm : ∀ i, i < len → w.cell? ⟨b, off + i * 4 + 3, none⟩ = some (.int .u8 (M i))
  bo : ∀ i, i < len → 0 ≤ O i ∧ O i ≤ 18446744073709551615
  bn : ∀ i, i < len → 0 ≤ N i ∧ N i ≤ 18446744073709551615
  bm : ∀ i, i < len → 0 ≤ M i ∧ M i ≤ 255

set_option maxRecDepth 100000 in
set_option maxHeartbeats 2000000 in
theorem rises_row (s : Int) (b off len cap : Nat) (T : Nat → Bool) (O N M : Nat → Int) (w : World) (h0 : 0 ≤ s) (hm : len ≤ 9223372036854775807) (ha : Asks w b off len T O N M) :
    Calls Try.prog 5 #[.int .u64 s, .slice (some ⟨b, off, none⟩) len cap] w fun e w' => e = .returned (.bool true) ∧ Below w.heap.size w w' := by
  have hc0 : 0 ≤ capC s := by unfold capC; split <;> omega
  have hc1 : capC s < 4611686018427387904 := by unfold capC; split <;> omega
  obtain ⟨c, hc⟩ : ∃ c, capC s = c := ⟨_, rfl⟩
  rw [hc] at hc0 hc1
  go_enter Try.func5, Try.ntmps5
  go_wp2_with (first | (go_at_call 3; (with_reducible refine (runs_any _).mono ?_); rintro e w1 ⟨rfl, hb1⟩; have B1 : Below w.heap.size w w1 := (by refine Below.trans ?_ (hb1.mono (by first | (simp; done) | (have := (Below.refl 0 w).size; simp; omega))); repeat (first | exact Below.refl _ _ | assumption | refine Below.setCell ?_ (by first | (simp; done) | (have := (Below.refl 0 w).size; simp; omega)) _ | refine Below.alloc ?_ (by first | (simp; done) | (have := (Below.refl 0 w).size; simp; omega)) _ | refine Below.drew ?_)); clear hb1))
  go_wp2_with (first | (go_at_call 8; (with_reducible refine (new_any _ _).mono ?_); rintro e w' ⟨rfl, rfl⟩))
  go_wp2_with (first | (go_at_call 10; (with_reducible refine (load_any _ c _ (by simp)).mono ?_); rintro e w' ⟨rfl, rfl⟩))
  clear hc
  go_loopw [6, 7] (fun u6 u7 wr => ∃ (k n : Nat) (cur : Int), k ≤ len ∧ 0 ≤ cur ∧ cur < 4611686018427387904 ∧ u6 = .int .u64 cur ∧ u7 = .int .i64 k ∧ wr = (w1.alloc (.cells #[.int .u64 cur] 49)).drewN n) (fun _ i _ => (60 - intOf i).toNat)
  case atStart => exact ⟨0, 0, c, by omega, hc0, hc1, rfl, rfl, rfl⟩
  case round =>
    obtain ⟨k, n, cur, hk, hu0, hu1, rfl, rfl, rfl⟩ := hrel
    clear hc0 hc1
    by_cases hlt : k < len
    · by_cases h60 : k < 60
      · obtain ⟨ol, hol⟩ : ∃ x, O k = x := ⟨_, rfl⟩
        obtain ⟨nw, hnw⟩ : ∃ x, N k = x := ⟨_, rfl⟩
        have co : w1.cell? ⟨b, off + k * 4 + 1, none⟩ = some (.int .u64 ol) := by rw [← hol]; exact (B1.cell ha.lt).trans (ha.co k hlt)
        have cn : w1.cell? ⟨b, off + k * 4 + 2, none⟩ = some (.int .u64 nw) := by rw [← hnw]; exact (B1.cell ha.lt).trans (ha.cn k hlt)
        have bo := ha.bo k hlt
        have bn := ha.bn k hlt
        rw [hol] at bo
        rw [hnw] at bn
        clear hol hnw
        have hki : (k : Int) < (len : Int) := by omega
        have hki6 : (k : Int) < 60 := by omega
        have hkn : (0 : Int) ≤ (k : Int) := by omega
        cases hD : casD cur ol nw
        · have HD := Lib.hid hD
          clear hD
          have hlf : decide (cur < cur) = false := by simp
          have hgf : decide ((4611686018427387904 : Int) ≤ cur) = false := by simp; omega
          have hnf : (cur != cur) = false := by simp
          obtain ⟨wr, hwr⟩ : ∃ wr, wr = (w1.alloc (.cells #[.int .u64 cur] 49)).drewN n := ⟨_, rfl⟩
          have dc : wr.cell? ⟨w1.heap.size, 0, none⟩ = some (.int .u64 cur) := by rw [hwr]; simp
          have do1 : wr.cell? ⟨b, off + k * 4 + 1, none⟩ = some (.int .u64 ol) := by rw [hwr]; simp [cas1, co]
          have do2 : wr.cell? ⟨b, off + k * 4 + 2, none⟩ = some (.int .u64 nw) := by rw [hwr]; simp [cas1, cn]
          rw [← hwr]
          have HW := Lib.hid hwr
          clear hwr co cn
          go_wp2
          go_quiet ((go_at_call 9; exact Calls.quiet_of_same ((cas_no _ cur ol nw _ (by simp [dc]) HD.out).mono fun e w' h => ⟨h.1, h.2.symm⟩)))
          go_wp2_with (first | (go_at_call 10; (with_reducible refine (load_any _ cur _ (by simp [dc])).mono ?_); rintro e w' ⟨rfl, rfl⟩))
          go_roundw
          case rel => exact ⟨k + 1, n + nq, cur, by omega, hu0, hu1, rfl, by go_num, by rw [HW.out, World.drewN_drewN]⟩
          case measure => simp [intOf]; omega
        · have HD := Lib.hid hD
          simp only [casD, Bool.and_eq_true, decide_eq_true_eq, beq_iff_eq] at hD
          obtain ⟨d1, d2, d3⟩ := hD
          subst d3
          have hlf : decide (nw < cur) = false := by simp; omega
          have hgf : decide ((4611686018427387904 : Int) ≤ nw) = false := by simp; omega
          have hnf : (cur != cur) = false := by simp
          have hnf2 : (nw != nw) = false := by simp
          have hnf3 : (nw == cur) = false := by simp; omega
          go_wp2
          go_region_held3 (fun w' => w'.cell? ⟨b, off + k * 4 + 1, none⟩ = some (.int .u64 cur) ∧ w'.cell? ⟨b, off + k * 4 + 2, none⟩ = some (.int .u64 nw)) (go_keep)
            (first | (go_at_call 9; (with_reducible refine (cas_yes _ cur cur nw _ (by simp) (by simp) HD.out).mono ?_); rintro e w' ⟨rfl, rfl⟩))
          go_wp2_with (first | (go_at_call 10; (with_reducible refine (load_any _ nw _ (by simp)).mono ?_); rintro e w' ⟨rfl, rfl⟩))
          exact ⟨⟨k + 1, n + 1, nw, by omega, by omega, d2, rfl, by go_num, rfl⟩, by simp [intOf]; omega⟩
      · have h6 : decide ((k : Int) < 60) = false := by simp; omega
        have hki : (k : Int) < (len : Int) := by omega
        go_wp2
        go_ret
        refine ⟨rfl, ?_⟩
        exact below_drewN (B1.alloc B1.size _) _
    · have hl : decide ((k : Int) < (len : Int)) = false := by simp; omega
      go_wp2
      go_ret
      refine ⟨rfl, ?_⟩
      exact below_drewN (B1.alloc B1.size _) _

set_option maxRecDepth 100000 in
set_option maxHeartbeats 1000000 in
theorem rises_empty (s : Int) (a : Option Addr) (cap : Nat) (w : World) (h0 : 0 ≤ s) :
    Calls Try.prog 5 #[.int .u64 s, .slice a 0 cap] w fun e w' => e = .returned (.bool true) ∧ Below w.heap.size w w' := by
  have hc1 : capC s < 4611686018427387904 := by unfold capC; split <;> omega
  obtain ⟨c, hc⟩ : ∃ c, capC s = c := ⟨_, rfl⟩
  rw [hc] at hc1
  go_enter Try.func5, Try.ntmps5
  go_wp2_with (first | (go_at_call 3; (with_reducible refine (runs_any _).mono ?_); rintro e w1 ⟨rfl, hb1⟩; have B1 : Below w.heap.size w w1 := (by refine Below.trans ?_ (hb1.mono (by first | (simp; done) | (have := (Below.refl 0 w).size; simp; omega))); repeat (first | exact Below.refl _ _ | assumption | refine Below.setCell ?_ (by first | (simp; done) | (have := (Below.refl 0 w).size; simp; omega)) _ | refine Below.alloc ?_ (by first | (simp; done) | (have := (Below.refl 0 w).size; simp; omega)) _ | refine Below.drew ?_)); clear hb1))
  go_wp2_with (first | (go_at_call 8; (with_reducible refine (new_any _ _).mono ?_); rintro e w' ⟨rfl, rfl⟩))
  go_wp2_with (first | (go_at_call 10; (with_reducible refine (load_any _ c _ (by simp)).mono ?_); rintro e w' ⟨rfl, rfl⟩))
  clear hc
  refine wp_loop_rounds 1 ?_
  rw [rounds_succ]
  go_wp2
  go_ret
  refine ⟨rfl, ?_⟩
  exact B1.alloc B1.size _
end Go.Proofs.Ytbggbmcijhnijaa
