/- StripeSpread: the walk of the law. -/

import Derived.Test.YtmeehagbfcfceaaOfs
namespace Go.Proofs.Ytmeehagbfcfceaa
open Go.ChangeShapes Go.WideShapes Go.ChangeAt Go.RowKit
open Go.ChangeMaps (open_string shut_string)
set_option linter.unusedVariables false
theorem div_add_small (a X i : Int) (hX : 0 < X) (h0 : 0 ≤ i) (h1 : i < X) : (a * X + i) / X = a := by
  rw [Int.add_comm, Int.add_mul_ediv_right _ _ (by omega), Int.ediv_eq_zero_of_lt h0 h1]; omega
theorem spread_math (a X K : Int) (h0 : 0 ≤ a) (hX : 0 < X) (hK : 0 < K) : (∀ i, 0 ≤ i → i < X → (a * X + i) / X % K = a % K) ∧ (a * X) / X % K = a % K ∧ (a * X + X) / X % K = (a % K + 1) % K ∧ (a * X + X * K) / X % K = a % K := by
  refine ⟨fun i hi h => by rw [div_add_small a X i hX hi h], ?_, ?_, ?_⟩
  · have := div_add_small a X 0 hX (by omega) hX
    rw [Int.add_zero] at this
    rw [this]
  · have : a * X + X = (a + 1) * X + 0 := by rw [Int.add_mul]; omega
    rw [this, div_add_small _ _ _ hX (by omega) hX]
    exact (Int.emod_add_emod a K 1).symm
  · have : a * X + X * K = (a + K) * X + 0 := by rw [Int.add_mul, Int.mul_comm X K]; omega
    rw [this, div_add_small _ _ _ hX (by omega) hX, Int.add_emod_right]
set_option maxHeartbeats 2000000 in
theorem spread_law (n wide a : Int) (w : World) (hn : 0 ≤ n ∧ n ≤ 255) (hw : 0 ≤ wide ∧ wide ≤ 255) (ha : 0 ≤ a ∧ a ≤ 255) : Calls Try.prog 6 #[.int .u8 n, .int .u8 wide, .int .u8 a] w fun e w' => e = .returned (.bool true) ∧ Below w.heap.size w w' := by
  obtain ⟨k, hk⟩ : ∃ k : Int, n % 16 = k := ⟨_, rfl⟩
  obtain ⟨x, hx⟩ : ∃ x : Int, wide % 16 = x := ⟨_, rfl⟩
  have k0 : 0 ≤ k := by omega
  have k1 : k ≤ 15 := by omega
  have x0 : 0 ≤ x := by omega
  have x1 : x ≤ 15 := by omega
  obtain ⟨R, hR⟩ : ∃ R : Int, a * (x + 1) = R := ⟨_, rfl⟩
  obtain ⟨M, hM⟩ : ∃ M : Int, (x + 1) * (k + 1) = M := ⟨_, rfl⟩
  have R0 : 0 ≤ R := by rw [← hR]; exact Int.mul_nonneg ha.1 (by omega)
  have R1 : R ≤ 4080 := by rw [← hR]; exact Int.le_trans (Int.mul_le_mul ha.2 (show x + 1 ≤ 16 by omega) (by omega) (by omega)) (by decide)
  have M0 : 0 ≤ M := by rw [← hM]; exact Int.mul_nonneg (by omega) (by omega)
  have M1 : M ≤ 256 := by rw [← hM]; exact Int.le_trans (Int.mul_le_mul (show x + 1 ≤ 16 by omega) (show k + 1 ≤ 16 by omega) (by omega) (by omega)) (by decide)
  obtain ⟨S, hS⟩ : ∃ S : Int, a % (k + 1) = S := ⟨_, rfl⟩
  obtain ⟨S1, hS1⟩ : ∃ S1 : Int, (S + 1) % (k + 1) = S1 := ⟨_, rfl⟩
  have S0 : 0 ≤ S := by rw [← hS]; exact Int.emod_nonneg _ (by omega)
  have SK : S < k + 1 := by rw [← hS]; exact Int.emod_lt_of_pos _ (by omega)
  have MT := spread_math a (x + 1) (k + 1) ha.1 (by omega) (by omega)
  rw [hR, hM, hS, hS1] at MT
  obtain ⟨m1, m2, m3, m4⟩ := MT
  have HT : ∀ (p v : Int), 0 ≤ p → p ≤ 1000000 → p / (x + 1) % (k + 1) = v → ∀ w0 W : World, W.cell? ⟨w0.heap.size + 1, 0, none⟩ = (newT w0 (k + 1) (x + 1)).cell? ⟨w0.heap.size + 1, 0, none⟩ → W.cell? ⟨w0.heap.size + 1, 1, none⟩ = (newT w0 (k + 1) (x + 1)).cell? ⟨w0.heap.size + 1, 1, none⟩ → Calls Try.prog 13 #[ptr (w0.heap.size + 1), .int .i64 p] W fun e w' => e = .returned (.int .i64 v) ∧ ∃ k, w' = W.drewN k := fun p v hp hp2 hv w0 W h0 h1 => by
    have q := tab_newT w0 (k + 1) (x + 1)
    obtain ⟨c, hc⟩ := q.c1
    have := tof_any (w0.heap.size + 1) w0.heap.size (c16 (k + 1)).toNat (c16 (x + 1)) p W (by omega) (h0.trans q.c0) (h1.trans hc)
    have e : ofK p ((c16 (k + 1)).toNat : Int) (c16 (x + 1)) = v := by
      rw [c16_in (k + 1) (by omega) (by omega), c16_in (x + 1) (by omega) (by omega), Int.toNat_of_nonneg (by omega), ofK_nat _ _ _ hp, c16_in (k + 1) (by omega) (by omega), c16_in (x + 1) (by omega) (by omega), hv]
    rwa [e] at this
  have T0 := Lib.hid (HT R S R0 (by omega) m2)
  have T1 : Hid (∀ i : Int, 0 ≤ i → i < x + 1 → ∀ w0 W : World, W.cell? ⟨w0.heap.size + 1, 0, none⟩ = (newT w0 (k + 1) (x + 1)).cell? ⟨w0.heap.size + 1, 0, none⟩ → W.cell? ⟨w0.heap.size + 1, 1, none⟩ = (newT w0 (k + 1) (x + 1)).cell? ⟨w0.heap.size + 1, 1, none⟩ → Calls Try.prog 13 #[ptr (w0.heap.size + 1), .int .i64 (R + i)] W fun e w' => e = .returned (.int .i64 S) ∧ ∃ k, w' = W.drewN k) := fun i h0 h1 => HT (R + i) S (by omega) (by omega) (m1 i h0 h1)
  have T2 := Lib.hid (HT (R + (x + 1)) S1 (by omega) (by omega) m3)
  have T3 := Lib.hid (HT (R + M) S (by omega) (by omega) m4)
  have NT : Hid (∀ w0 : World, Below w0.heap.size w0 (newT w0 (k + 1) (x + 1))) := fun w0 => below_newT w0 _ _
  have ck : c16 (k + 1) = k + 1 := c16_in _ (by omega) (by omega)
  have CK := Lib.hid ck
  obtain ⟨kn, hkn⟩ := Int.eq_ofNat_of_zero_le k0
  subst hkn
  clear HT m1 m2 m3 m4 hS ck
  go_enter Try.func6, Try.ntmps6
  go_wp2_with (first | (go_at_call 3; (with_reducible refine (runs_any _).mono ?_); rintro e w1 ⟨rfl, hb1⟩; have B1 : Below w.heap.size w w1 := (by refine Below.trans ?_ (hb1.mono (by first | (simp; done) | (have := (Below.refl 0 w).size; simp; omega))); repeat (first | exact Below.refl _ _ | assumption | refine Below.setCell ?_ (by first | (simp; done) | (have := (Below.refl 0 w).size; simp; omega)) _ | refine Below.alloc ?_ (by first | (simp; done) | (have := (Below.refl 0 w).size; simp; omega)) _ | refine Below.drew ?_)); clear hb1))
  go_wp2_with fail
  refine (new_any _ _ _).mono ?_
  rintro e w0 ⟨rfl, hw0⟩
  have B0 : Below w.heap.size w w0 := by rw [hw0]; exact B1.trans ((NT.out w1).mono B1.size)
  have U0 : Hid (∀ m : Nat, Calls Try.prog 13 #[ptr (w1.heap.size + 1), .int .i64 R] w0 fun e w' => e = .returned (.int .i64 S) ∧ ∃ k, w' = w0.drewN k) := fun m => T0.out w1 w0 (by rw [hw0]) (by rw [hw0])
  have U1 : Hid (∀ (m : Nat) (i : Int), 0 ≤ i → i < (kn : Int) * 0 + (x + 1) → Calls Try.prog 13 #[ptr (w1.heap.size + 1), .int .i64 (R + i)] (w0.drewN m) fun e w' => e = .returned (.int .i64 S) ∧ ∃ k, w' = (w0.drewN m).drewN k) := fun m i h0 h1 => T1.out i h0 (by omega) w1 (w0.drewN m) (by rw [hw0]; rfl) (by rw [hw0]; rfl)
  have U2 : Hid (∀ (m : Nat), Calls Try.prog 13 #[ptr (w1.heap.size + 1), .int .i64 (R + (x + 1))] (w0.drewN m) fun e w' => e = .returned (.int .i64 S1) ∧ ∃ k, w' = (w0.drewN m).drewN k) := fun m => T2.out w1 (w0.drewN m) (by rw [hw0]; rfl) (by rw [hw0]; rfl)
  have U3 : Hid (∀ (m : Nat), Calls Try.prog 13 #[ptr (w1.heap.size + 1), .int .i64 (R + M)] (w0.drewN m) fun e w' => e = .returned (.int .i64 S) ∧ ∃ k, w' = (w0.drewN m).drewN k) := fun m => T3.out w1 (w0.drewN m) (by rw [hw0]; rfl) (by rw [hw0]; rfl)
  have U4 : Hid (∀ (m : Nat), Calls Try.prog 14 #[ptr (w1.heap.size + 1)] (w0.drewN m) fun e w' => e = .returned (.int .i64 ((kn : Int) + 1)) ∧ w0.drewN m = w') := fun m => by
    obtain ⟨c, hc⟩ := (tab_newT w1 ((kn : Int) + 1) (x + 1)).c1
    have := len_any (w1.heap.size + 1) w1.heap.size _ (w0.drewN m) ((show (w0.drewN m).cell? _ = _ by rw [hw0]; rfl).trans hc)
    rwa [CK.out, Int.toNat_of_nonneg (by omega)] at this
  clear hw0
  go_wp2_with (first | (go_at_call 13; (with_reducible refine (U0.out 0).mono ?_); rintro e w' ⟨rfl, k0', rfl⟩))
  have HSS : (S != S) = false := by simp
  go_loopw [12] (fun u wr => ∃ (i m : Nat), (i : Int) ≤ x + 1 ∧ u = .int .i64 i ∧ wr = w0.drewN m) (fun i _ => (x + 1 - intOf i).toNat)
  case atStart => exact ⟨0, k0', by omega, rfl, rfl⟩
  case round =>
    obtain ⟨i, m, hi, rfl, rfl⟩ := hrel
    by_cases hlt : (i : Int) < x + 1
    · have U := Lib.hid (U1.out m (i : Int) (by omega) (by omega))
      go_wp2_with (first | (go_at_call 13; (with_reducible refine U.out.mono ?_); rintro e w' ⟨rfl, k2, rfl⟩))
      go_roundw
      case rel => exact ⟨i + 1, m + k2, by omega, by go_num, by simp⟩
      case measure => simp [intOf]; omega
    · have hd : decide ((i : Int) < x + 1) = false := by simpa using hlt
      have s0 : decide (0 ≤ S) = true := by simpa using S0
      have s1 : decide (S < (kn : Int) + 1) = true := by simpa using SK
      have e1 : (S == S) = true := by simp
      have e2 : (S1 == S1) = true := by simp
      have e3 : ((kn : Int) + 1 == (kn : Int) + 1) = true := by simp
      obtain ⟨W, hW⟩ : ∃ W, W = w0.drewN m := ⟨_, rfl⟩
      have BW : Below w.heap.size w W := by rw [hW]; exact below_drewN B0 _
      have V2 : Hid (∀ j : Nat, Calls Try.prog 13 #[ptr (w1.heap.size + 1), .int .i64 (R + (x + 1))] (W.drewN j) fun e w' => e = .returned (.int .i64 S1) ∧ ∃ k, w' = (W.drewN j).drewN k) := fun j => by rw [hW, World.drewN_drewN]; exact U2.out _
      have V3 : Hid (∀ j : Nat, Calls Try.prog 13 #[ptr (w1.heap.size + 1), .int .i64 (R + M)] (W.drewN j) fun e w' => e = .returned (.int .i64 S) ∧ ∃ k, w' = (W.drewN j).drewN k) := fun j => by rw [hW, World.drewN_drewN]; exact U3.out _
      have V4 : Hid (∀ j : Nat, Calls Try.prog 14 #[ptr (w1.heap.size + 1)] (W.drewN j) fun e w' => e = .returned (.int .i64 ((kn : Int) + 1)) ∧ w' = W.drewN j) := fun j => by rw [hW, World.drewN_drewN]; exact (U4.out _).mono fun e w' h => ⟨h.1, h.2.symm⟩
      rw [← hW]
      clear hW
      go_wp2
      go_quiet (first | (go_at_call 13; first | (with_reducible exact Calls.quiet_of (V2.out _)) | (with_reducible exact Calls.quiet_of (V3.out _))) | (go_at_call 14; exact Calls.quiet_of_same (V4.out _)))
      go_wp2
      go_ret
      exact ⟨rfl, below_drewN BW _⟩
end Go.Proofs.Ytmeehagbfcfceaa
