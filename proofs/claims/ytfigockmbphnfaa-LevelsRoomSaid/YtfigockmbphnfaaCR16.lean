/- LevelsRoom (P9.2): for any numbers the law returns true; what was there stays as it was. No condition. -/
import Derived.Test.YtfigockmbphnfaaCR15
import Derived.Test.YtfigockmbphnfaaLc
import Derived.Test.YtfigockmbphnfaaChecked
import Derived.KernelRfl

namespace Go.Lev
open Go.RowKit
set_option linter.unusedVariables false
set_option linter.unusedSimpArgs false
set_option maxRecDepth 100000
noncomputable section
theorem rm_a (m opens : Int) (K : Pk) : (xsp Go.Proofs.Try.prog cxr9 40 100 (seg (sp Go.Proofs.Try.prog 8) 0 8) (tm0 [.int .u8 m, .int .u16 opens]) (mkS []) (vK rmL K)) = (
  K .normal [.int .u16 opens, .bool false, .int .i64 (xwr .i64 (xar .rem .u8 m 30)), .ptr 3 0, .int .i64 1] [some (.cells [.int .i64 96, .nils] none), some (.cells [.ptr 0 0, .nils] none), some (.cells [.ptr 1 0] none), some (.cells [.int .i64 (xmn (xmx (xwr .i64 (xar .rem .u8 m 30)) 0) 96), .sl 2 0 1 1] none)] []) := by kernel_rfl
theorem ri_one (n : Nat) : RI n 1 [0] := ⟨by omega, by omega, ⟨by simp, by simp, by simp, by simp⟩, fun h => absurd h (by omega)⟩
set_option maxHeartbeats 4000000 in
theorem room_fun (m opens : Int) (hm : 0 ≤ m) : SFun Go.Proofs.Try.prog 8 [.int .u8 m, .int .u16 opens] (mkS []) fun l _ => l = .bool true := by
  refine SFun.mono (SFun.pieces (Q := fun l _ => l = .bool true) 100 0 rmL [4] (by kernel_rfl) rfl rfl rfl ?_) fun l s' ⟨b0, h1, _⟩ => h1
  refine SSp.to cxr9_ok (n := 40) (g := []) 8 8 rfl (σ := {n : Nat // n < 30}) (fun n => rmT opens n.1 1) (fun n => RH n.1 [0]) (mkS_le (Nat.zero_le _)) (by kernel_rfl) ?_ fun ⟨n, hn⟩ => ?_
  · rw [rm_a]
    have e : xwr .i64 (xar .rem .u8 m 30) = ((m % 30).toNat : Nat) := by
      have e1 : m.tmod 30 = m % 30 := Int.tmod_eq_emod_of_nonneg hm
      rw [xar_rem _ _ _ (by omega), e1, wr_i64 (by omega) (by omega)]
      omega
    rw [e, room_nat (r := (m % 30).toNat) (by omega)]
    exact ⟨rfl, ⟨(m % 30).toNat, by omega⟩, [.id 3, .cap 2 0 1, .id 1, .id 0, .none], by (refine ⟨by kernel_rfl, ?_, ?_⟩ <;> repeat (first | exact okTms_nil | refine okTms_cons ?_ ?_ | exact okBlks_nil | refine okBlks_cons ?_ ?_ | exact lws_nil | refine lws_cons ?_ ?_ | exact lb_dead | exact lb_same (by (first | assumption | exact noIds_encL (fun _ => rfl) _ | exact noIds_tab (fun _ => rfl) _ _ | rfl)) | exact lb_ro (by (first | assumption | exact noIds_encL (fun _ => rfl) _ | exact noIds_tab (fun _ => rfl) _ _ | rfl)) | exact lb_none | refine lb_capL (by simp) (by simp) ?_ (by simp) | refine lb_drop0 (by simp) ?_ (by simp) | exact lw_slo_drop rfl | refine lb_cells ?_ (by simp) | exact lb_cap (Nat.le_refl _) (Nat.le_refl _) rfl rfl | exact lb_capn (by assumption) (by (first | assumption | exact noIds_encL (fun _ => rfl) _ | exact noIds_tab (fun _ => rfl) _ _ | rfl)) | exact lw_any | exact lw_int | exact lw_bool | exact lw_ptr rfl | exact lw_slo rfl | exact lw_nils | exact lw_slo_nils | exact lw_sl rfl | exact lw_noid rfl | exact lw_cap rfl (Nat.le_refl _) | refine lw_tup ?_ | refine lw_agg ?_ | assumption))⟩
  refine SSp.code_to (g := []) 9 rfl (σ := E9 n) (fun _ => rmT opens n (n + 3)) (fun q => RH n q.1) (by kernel_rfl) (room_loop opens n hn ⟨(1, [0]), ri_one n⟩ _) fun ⟨ks, h⟩ => ?_
  match ks, h with
  | [], h => exact absurd h.s.pos (by simp)
  | [k0], h =>
    obtain ⟨_, _, ⟨s1, s2, s3, s4⟩, s5⟩ := h
    simp only [List.sum_cons, List.sum_nil, List.getLastD_cons, List.getLastD_nil] at s1 s5
    exact rl1_end opens n (n + 3) k0 hn (by omega) (fun h6 => s5 (by omega) h6) _ rfl _ (fun _ => rfl) _ (fun _ => rfl)
  | [k0, k1], h =>
    obtain ⟨_, _, ⟨s1, s2, s3, s4⟩, s5⟩ := h
    simp only [List.sum_cons, List.sum_nil, List.getLastD_cons, List.getLastD_nil] at s1 s5
    exact rl2_end opens n (n + 3) k0 k1 hn (by omega) (fun h6 => s5 (by omega) h6) _ rfl _ (fun _ => rfl) _ (fun _ => rfl)
  | [k0, k1, k2], h =>
    obtain ⟨_, _, ⟨s1, s2, s3, s4⟩, s5⟩ := h
    simp only [List.sum_cons, List.sum_nil, List.getLastD_cons, List.getLastD_nil] at s1 s5
    exact rl3_end opens n (n + 3) k0 k1 k2 hn (by omega) (fun h6 => s5 (by omega) h6) _ rfl _ (fun _ => rfl) _ (fun _ => rfl)
  | [k0, k1, k2, k3], h =>
    obtain ⟨_, _, ⟨s1, s2, s3, s4⟩, s5⟩ := h
    simp only [List.sum_cons, List.sum_nil, List.getLastD_cons, List.getLastD_nil] at s1 s5
    exact rl4_end opens n (n + 3) k0 k1 k2 k3 hn (by omega) (fun h6 => s5 (by omega) h6) _ rfl _ (fun _ => rfl) _ (fun _ => rfl)
  | [k0, k1, k2, k3, k4], h =>
    obtain ⟨_, _, ⟨s1, s2, s3, s4⟩, s5⟩ := h
    simp only [List.sum_cons, List.sum_nil, List.getLastD_cons, List.getLastD_nil] at s1 s5
    exact rl5_end opens n (n + 3) k0 k1 k2 k3 k4 hn (by omega) (fun h6 => s5 (by omega) h6) _ rfl _ (fun _ => rfl) _ (fun _ => rfl)
  | [k0, k1, k2, k3, k4, k5], h =>
    obtain ⟨_, _, ⟨s1, s2, s3, s4⟩, s5⟩ := h
    simp only [List.sum_cons, List.sum_nil, List.getLastD_cons, List.getLastD_nil] at s1 s5
    exact rl6_end opens n (n + 3) k0 k1 k2 k3 k4 k5 hn (by omega) (fun h6 => s5 (by omega) h6) _ rfl _ (fun _ => rfl) _ (fun _ => rfl)
  | _ :: _ :: _ :: _ :: _ :: _ :: _ :: _, h => exact absurd h.s.six (by simp)
theorem room_any {W : World} (m opens : Int) (h0 : 0 ≤ m ∧ m ≤ 255) : Calls Go.Proofs.Try.prog 8 #[.int .u8 m, .int .u16 opens] W fun e W' => e = .returned (.bool true) ∧ Below W.heap.size W W' := by
  refine SFun.top (rows := []) (g := []) (us := [.int .u8 m, .int .u16 opens]) trivial (fun x hx => by cases hx) (fun r h => ?_) (room_fun m opens h0.1)
  simp only [VRs, VR]
  exact ⟨_, _, rfl, rfl, _, _, rfl, rfl, rfl⟩
end
end Go.Lev
