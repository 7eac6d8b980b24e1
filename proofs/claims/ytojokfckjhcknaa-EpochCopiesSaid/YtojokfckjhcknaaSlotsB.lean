/- The least slot; the reference's word of what is passed; that two rows are the same. -/


import Derived.Test.YtojokfckjhcknaaSlots
namespace Go.Proofs.Ytojokfckjhcknaa
open Go.ChangeShapes Go.WideShapes Go.ChangeAt Go.RowKit
open Go.ChangeMaps (open_string shut_string)
set_option linter.unusedVariables false
theorem rpassed_row (b off n cap : Nat) (ws : Nat → Int) (st : Int) (w : World) (hn : n ≤ 9223372036854775807) (hb : ∀ i, i < n → 0 ≤ ws i) (hs : 0 ≤ st) (hc : ∀ i, i < n → w.cell? ⟨b, off + i, none⟩ = some (.int .u64 (ws i))) :
    Calls Try.prog 21 #[.slice (some ⟨b, off, none⟩) n cap, .int .u64 st] w fun e w' => e = .returned (.bool (psd ws st n)) ∧ w = w' := by
  have HC := Lib.hid hc
  have HB := Lib.hid hb
  clear hc hb
  go_enter Try.func21, Try.ntmps21
  go_wp2
  go_loop [5] (fun u => ∃ k : Nat, k ≤ n ∧ u = .int .i64 k ∧ Hid (psd ws st k = true)) (fun u => n - (intOf u).toNat)
  case atStart => exact ⟨0, by omega, rfl, rfl⟩
  case round =>
    obtain ⟨k, hk, rfl, hp⟩ := hrel
    by_cases hlt : k < n
    · have hc := HC.out k hlt
      have hb := HB.out k hlt
      obtain ⟨x, hx⟩ : ∃ x, ws k = x := ⟨_, rfl⟩
      rw [hx] at hc hb
      have HX := Lib.hid hx
      clear hx
      have hki : (k : Int) < (n : Int) := by omega
      by_cases h0 : x = 0
      · have e0 : (x != 0) = false := by simp [h0]
        have H0 := Lib.hid h0
        clear h0
        go_wp2
        go_round
        case rel => exact ⟨k + 1, by omega, by go_num, by have := hp.out; unfold Hid; simp [psd, this, HX.out, H0.out]⟩
        case measure => simp [intOf]; omega
      · have e0 : (x != 0) = true := by simp [h0]
        by_cases h1 : x ≤ st
        · have hf : psd ws st n = false := psd_false (k := k + 1) (by simp [psd, HX.out, h0]; intro _; omega) (by omega)
          have HF := Lib.hid hf
          clear h0 hf
          go_wp2
          go_ret
          exact ⟨by rw [HF.out]; rfl, rfl⟩
        · have e1 : decide (x ≤ st) = false := by simpa using h1
          have e2 : st < x := by omega
          have H0 := Lib.hid (And.intro h0 e2)
          clear h0 h1 e2
          go_wp2
          go_round
          case rel => exact ⟨k + 1, by omega, by go_num, by have := hp.out; unfold Hid; simp [psd, this, HX.out, H0.out.2]⟩
          case measure => simp [intOf]; omega
    · obtain rfl : k = n := by omega
      have hl : decide ((k : Int) < (k : Int)) = false := by simp
      go_wp2
      go_ret
      exact ⟨by rw [hp.out]; rfl, rfl⟩

set_option maxHeartbeats 1000000 in
theorem same_u64 (b1 o1 c1 b2 o2 c2 n : Nat) (ws : Nat → Int) (w : World) (h63 : n ≤ 9223372036854775807) (h1 : ∀ i, i < n → w.cell? ⟨b1, o1 + i, none⟩ = some (.int .u64 (ws i))) (h2 : ∀ i, i < n → w.cell? ⟨b2, o2 + i, none⟩ = some (.int .u64 (ws i))) :
    Calls Try.prog 17 #[.slice (some ⟨b1, o1, none⟩) n c1, .slice (some ⟨b2, o2, none⟩) n c2] w fun e w' => e = .returned (.bool true) ∧ ∃ k, w' = w.drewN k := by
  have H1 := Lib.hid h1
  have H2 := Lib.hid h2
  have hnn : ((n : Int) != (n : Int)) = false := by simp
  clear h1 h2
  go_enter Try.func17, Try.ntmps17
  go_wp2
  go_loopw [5] (fun u wr => ∃ k m : Nat, k ≤ n ∧ u = .int .i64 k ∧ wr = w.drewN m) (fun u _ => n - (intOf u).toNat)
  case atStart => exact ⟨0, 0, by omega, rfl, rfl⟩
  case round =>
    obtain ⟨k, m, hk, rfl, hwr⟩ := hrel
    subst hwr
    by_cases hlt : k < n
    · obtain ⟨W, hW⟩ : ∃ W, W = w.drewN m := ⟨_, rfl⟩
      have c1' : W.cell? ⟨b1, o1 + k, none⟩ = some (.int .u64 (ws k)) := by rw [hW]; exact H1.out k hlt
      have c2' : W.cell? ⟨b2, o2 + k, none⟩ = some (.int .u64 (ws k)) := by rw [hW]; exact H2.out k hlt
      rw [← hW]
      have HWW := Lib.hid hW
      clear hW
      generalize ws k = y at *
      have hyy : (y != y) = false := by simp
      have hk1 : (k : Int) < (n : Int) := by omega
      have hk0 : (0 : Int) ≤ (k : Int) := by omega
      go_wp2
      go_quiet (fail)
      go_wp2
      go_roundw
      case rel => exact ⟨k + 1, m + nq, by omega, by go_num, by rw [HWW.out, World.drewN_drewN]⟩
      case measure => simp [intOf]; omega
    · have hd : decide ((k : Int) < (n : Int)) = false := by simp; omega
      go_wp2
      go_ret
      exact ⟨rfl, m, rfl⟩
/-- The least of the first k words that is not 0. -/
def lst (ws : Nat → Int) : Nat → Int
  | 0 => 0
  | k + 1 => if ws k ≠ 0 ∧ (lst ws k = 0 ∨ ws k < lst ws k) then ws k else lst ws k
theorem lst_nn {ws : Nat → Int} : ∀ {n : Nat}, (∀ i, i < n → 0 ≤ ws i) → 0 ≤ lst ws n
  | 0, _ => by simp [lst]
  | n + 1, h => by
    have := lst_nn (n := n) fun i hi => h i (by omega)
    have := h n (by omega)
    rw [lst]
    split <;> omega
theorem lst_take {ws : Nat → Int} {k : Nat} (h0 : (ws k != 0) = true) (h : lst ws k = 0 ∨ ws k < lst ws k) : lst ws (k + 1) = ws k := by
  have : ws k ≠ 0 := by simpa using h0
  simp [lst, this, h]
theorem lst_zero {ws : Nat → Int} {k : Nat} (h0 : ws k = 0) : lst ws (k + 1) = lst ws k := by simp [lst, h0]
theorem lst_more {ws : Nat → Int} {k : Nat} (h1 : ¬ lst ws k = 0) (h2 : ¬ ws k < lst ws k) : lst ws (k + 1) = lst ws k := by simp [lst, h1, h2]
set_option maxHeartbeats 1000000 in
theorem sleast_row (s r n c : Nat) (ws : Nat → Int) (w : World) (hs : w.cell? ⟨s, 0, none⟩ = some (.slice (some ⟨r, 0, none⟩) n c)) (hn : n ≤ 1000000) (hb : ∀ i, i < n → 0 ≤ ws i) (hc : ∀ i, i < n → w.cell? ⟨r, i, none⟩ = some (.int .u64 (ws i))) :
    Calls Try.prog 9 #[ptr s] w fun e w' => e = .returned (.tuple #[.int .u64 (lst ws n), .bool (lst ws n != 0)]) ∧ w = w' := by
  have HC := Lib.hid hc
  have HB := Lib.hid hb
  clear hc hb
  go_enter Try.func9, Try.ntmps9
  go_wp2
  go_loop [4, 12] (fun u4 u12 => ∃ k : Nat, k ≤ n ∧ u4 = .int .u64 (lst ws k) ∧ u12 = .int .i64 k) (fun _ u => n - (intOf u).toNat)
  case atStart => exact ⟨0, by omega, rfl, rfl⟩
  case round =>
    obtain ⟨k, hk, rfl, rfl⟩ := hrel
    by_cases hlt : k < n
    · have hc := HC.out k hlt
      have Z := Lib.hid (@lst_zero ws k)
      have M := Lib.hid (@lst_more ws k)
      have T := Lib.hid (@lst_take ws k)
      have hki : (k : Int) < (n : Int) := by omega
      have hkn : (0 : Int) ≤ (k : Int) := by omega
      obtain ⟨x, hx⟩ : ∃ x, ws k = x := ⟨_, rfl⟩
      obtain ⟨y, hy⟩ : ∃ y, lst ws k = y := ⟨_, rfl⟩
      obtain ⟨z, hz⟩ : ∃ z, lst ws (k + 1) = z := ⟨_, rfl⟩
      rw [hx, hy, hz] at Z M T
      rw [hx] at hc
      rw [hy]
      have HZ := Lib.hid hz
      clear hx hy hz
      by_cases h0 : x = 0
      · have e0 : (x != 0) = false := by simp [h0]
        have E := Lib.hid (Z.out h0)
        clear h0
        go_wp2
        go_round
        case rel => exact ⟨k + 1, by omega, by rw [HZ.out, E.out], by go_num⟩
        case measure => simp [intOf]; omega
      · have e0 : (x != 0) = true := by simp [h0]
        by_cases h1 : y = 0
        · have e1 : (y == 0) = true := by simp [h1]
          have E := Lib.hid (T.out e0 (.inl h1))
          clear h0 h1
          go_wp2
          go_round
          case rel => exact ⟨k + 1, by omega, by rw [HZ.out, E.out], by go_num⟩
          case measure => simp [intOf]; omega
        · have e1 : (y == 0) = false := by simp [h1]
          by_cases h2 : x < y
          · have E := Lib.hid (T.out e0 (.inr h2))
            clear h0 h1
            go_wp2
            go_round
            case rel => exact ⟨k + 1, by omega, by rw [HZ.out, E.out], by go_num⟩
            case measure => simp [intOf]; omega
          · have e2 : decide (x < y) = false := by simpa using h2
            have E := Lib.hid (M.out h1 h2)
            clear h0 h1 h2
            go_wp2
            go_round
            case rel => exact ⟨k + 1, by omega, by rw [HZ.out, E.out], by go_num⟩
            case measure => simp [intOf]; omega
    · obtain rfl : k = n := by omega
      have hl : decide ((k : Int) < (k : Int)) = false := by simp
      obtain ⟨y, hy⟩ : ∃ y, lst ws k = y := ⟨_, rfl⟩
      rw [hy]
      have HY := Lib.hid hy
      clear hy
      go_wp2
      go_ret2
      exact ⟨by rw [HY.out]; rfl, rfl⟩
end Go.Proofs.Ytojokfckjhcknaa
