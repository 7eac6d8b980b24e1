/- the laws of chapter 6: same, do -/
import Derived.Test.YtmfakfopedneoaaCW3
import Derived.Test.YtmfakfopedneoaaLc
import Derived.Test.YtmfakfopedneoaaChecked
import Derived.KernelRfl

namespace Go.Lev
open Go.RowKit
set_option linter.unusedVariables false
set_option linter.unusedSimpArgs false
set_option maxRecDepth 100000
noncomputable section
/-! a copy of a row: slices.Clone[[]uint64,uint64] -/
theorem cloneU_s (n : Nat) (cs : List LV) (K : Pk) : (xsp Go.Proofs.Try.prog (fun _ => none) 40 8 ((sp Go.Proofs.Try.prog 56).drop 0) (tm0 [.slo 0 0 (n + 1) 0]) (mkS [.cells cs (some 1)]) (vK [0, 2, 4] K)) = (
  bif xle (xadd 0 (xmul (n + 1) 1)) (xln cs) then
  bif xle (xadd 0 (n + 1)) 1000000 then
  K .ret [.slo 0 0 (n + 1) 0, .slo 2 0 (xadd 0 (n + 1)) 0, .bool false] [some (.cells cs (some 1)), some (.cells [] none), some (.cells (xcat [] (xcut cs 0 (xmul (n + 1) 1))) (some 1))] []
  else False
  else False) := by kernel_rfl
theorem cloneU_a (K : Pk) : (xsp Go.Proofs.Try.prog (fun _ => none) 40 8 (seg (sp Go.Proofs.Try.prog 56) 0 2) (tm0 [.slo 0 0 0 0]) (mkS [.cells [] (some 1)]) (vK [0, 2, 4] K)) = (
  K .normal [.slo 0 0 0 0, .nils, .unb] [some (.cells [] (some 1))] []) := by kernel_rfl
theorem cloneU_t (K : Pk) : (xcode Go.Proofs.Try.prog (fun _ => none) 40 8 (condT (nthC (sp Go.Proofs.Try.prog 56) 2)) (mkTm 8 [(0, .slo 0 0 0 0), (4, .unb)]) (mkS [.cells [] (some 1)]) (vK [0, 2, 4] K)) = (
  K .ret [.slo 0 0 0 0, .nils, .unb] [some (.cells [] (some 1))] []) := by kernel_rfl
theorem cloneU_f (K : Pk) : (xcode Go.Proofs.Try.prog (fun _ => none) 40 8 (condF (nthC (sp Go.Proofs.Try.prog 56) 2)) (mkTm 8 [(0, .slo 0 0 0 0), (4, .unb)]) (mkS [.cells [] (some 1)]) (vK [0, 2, 4] K)) = (
  K .normal [.slo 0 0 0 0, .any, .unb] [some (.cells [] (some 1))] []) := by kernel_rfl
theorem cloneU_z (K : Pk) : (xsp Go.Proofs.Try.prog (fun _ => none) 40 8 ((sp Go.Proofs.Try.prog 56).drop 3) (mkTm 8 [(0, .slo 0 0 0 0)]) (mkS [.cells [] (some 1)]) (vK [0, 2, 4] K)) = (
  K .ret [.slo 0 0 0 0, .sl 1 0 0 0, .any] [some (.cells [] (some 1)), some (.cells [] none)] []) := by kernel_rfl
theorem cloneU_ok : GOk Go.Proofs.Try.prog 56 (cloneG 1) := by
  refine cloneG_ok fun n cs hn hl hno => ?_
  refine SFun.mono (SFun.pieces (Q := fun l b => l = .slo 1 0 n 0 ∧ b = [.cells cs (some 1), .cells cs (some 1)]) 8 1 [0, 2, 4] [2] (by kernel_rfl) rfl rfl rfl ?_) fun l s' ⟨b0, ⟨h1, h2⟩, h3⟩ => ⟨h1, by rw [h3, h2]⟩
  cases n with
  | zero =>
    have : cs = [] := List.length_eq_zero_iff.1 (by omega)
    subst this
    refine SSp.to noCx_ok (n := 40) (g := []) 2 2 rfl (σ := Unit) (fun _ => [(0, .slo 0 0 0 0), (4, .unb)]) (fun _ => [.cells [] (some 1)]) (mkS_le (Nat.le_refl _)) (by kernel_rfl) ?_ fun _ => ?_
    · rw [cloneU_a]; exact ⟨rfl, (), [.id 0], by (exact ⟨by kernel_rfl, by ((repeat refine okTms_cons (by (first | exact lw_any | exact lw_int | exact lw_bool | exact lw_ptr rfl | exact lw_slo rfl | exact lw_nilp | exact lw_nils | exact lw_str | exact lw_slo_nils | exact lw_slo_sle | exact lw_sl rfl | exact lw_unb | exact lw_gptr | exact lw_noid rfl | exact lw_cap rfl (Nat.le_refl _) | exact lw_cap rfl (by omega) | assumption)) ?_); exact okTms_nil), by ((repeat refine okBlks_cons (by (first | exact lb_dead | exact lb_same (by (first | assumption | exact noIds_tab (fun _ => rfl) _ _ | exact noIds_encL (fun _ => rfl) _ | rfl)) | exact lb_ro (by (first | assumption | exact noIds_tab (fun _ => rfl) _ _ | exact noIds_encL (fun _ => rfl) _ | rfl)) | exact lb_none | exact lb_cells (by ((repeat refine lws_cons (by (first | exact lw_any | exact lw_int | exact lw_bool | exact lw_ptr rfl | exact lw_slo rfl | exact lw_nilp | exact lw_nils | exact lw_str | exact lw_slo_nils | exact lw_slo_sle | exact lw_sl rfl | exact lw_unb | exact lw_gptr | exact lw_noid rfl | exact lw_cap rfl (Nat.le_refl _) | exact lw_cap rfl (by omega) | assumption)) ?_); exact lws_nil)) (by simp) | exact lb_iter | exact lb_cap (Nat.le_refl _) (Nat.le_refl _) rfl rfl | exact lb_capn (by assumption) (by (first | assumption | exact noIds_tab (fun _ => rfl) _ _ | exact noIds_encL (fun _ => rfl) _ | rfl)) | assumption)) ?_); exact okBlks_nil)⟩)⟩
    refine SSp.code_to (g := []) 3 rfl (σ := Unit) (fun _ => [(0, .slo 0 0 0 0)]) (fun _ => [.cells [] (some 1)]) (by kernel_rfl) ?_ fun _ => ?_
    · refine SCode.unb noCx_ok (n := 40) (by kernel_rfl) (by kernel_rfl) (mkS_le (Nat.le_refl _)) ?_ ?_
      · rw [cloneU_t]; exact ⟨trivial, rfl, _, _, [.id 0, .none], ⟨rfl, rfl⟩, by (exact ⟨by kernel_rfl, by ((repeat refine okTms_cons (by (first | exact lw_any | exact lw_int | exact lw_bool | exact lw_ptr rfl | exact lw_slo rfl | exact lw_nilp | exact lw_nils | exact lw_str | exact lw_slo_nils | exact lw_slo_sle | exact lw_sl rfl | exact lw_unb | exact lw_gptr | exact lw_noid rfl | exact lw_cap rfl (Nat.le_refl _) | exact lw_cap rfl (by omega) | assumption)) ?_); exact okTms_nil), by ((repeat refine okBlks_cons (by (first | exact lb_dead | exact lb_same (by (first | assumption | exact noIds_tab (fun _ => rfl) _ _ | exact noIds_encL (fun _ => rfl) _ | rfl)) | exact lb_ro (by (first | assumption | exact noIds_tab (fun _ => rfl) _ _ | exact noIds_encL (fun _ => rfl) _ | rfl)) | exact lb_none | exact lb_cells (by ((repeat refine lws_cons (by (first | exact lw_any | exact lw_int | exact lw_bool | exact lw_ptr rfl | exact lw_slo rfl | exact lw_nilp | exact lw_nils | exact lw_str | exact lw_slo_nils | exact lw_slo_sle | exact lw_sl rfl | exact lw_unb | exact lw_gptr | exact lw_noid rfl | exact lw_cap rfl (Nat.le_refl _) | exact lw_cap rfl (by omega) | assumption)) ?_); exact lws_nil)) (by simp) | exact lb_iter | exact lb_cap (Nat.le_refl _) (Nat.le_refl _) rfl rfl | exact lb_capn (by assumption) (by (first | assumption | exact noIds_tab (fun _ => rfl) _ _ | exact noIds_encL (fun _ => rfl) _ | rfl)) | assumption)) ?_); exact okBlks_nil)⟩)⟩
      · rw [cloneU_f]; exact ⟨rfl, (), [.id 0], by (exact ⟨by kernel_rfl, by ((repeat refine okTms_cons (by (first | exact lw_any | exact lw_int | exact lw_bool | exact lw_ptr rfl | exact lw_slo rfl | exact lw_nilp | exact lw_nils | exact lw_str | exact lw_slo_nils | exact lw_slo_sle | exact lw_sl rfl | exact lw_unb | exact lw_gptr | exact lw_noid rfl | exact lw_cap rfl (Nat.le_refl _) | exact lw_cap rfl (by omega) | assumption)) ?_); exact okTms_nil), by ((repeat refine okBlks_cons (by (first | exact lb_dead | exact lb_same (by (first | assumption | exact noIds_tab (fun _ => rfl) _ _ | exact noIds_encL (fun _ => rfl) _ | rfl)) | exact lb_ro (by (first | assumption | exact noIds_tab (fun _ => rfl) _ _ | exact noIds_encL (fun _ => rfl) _ | rfl)) | exact lb_none | exact lb_cells (by ((repeat refine lws_cons (by (first | exact lw_any | exact lw_int | exact lw_bool | exact lw_ptr rfl | exact lw_slo rfl | exact lw_nilp | exact lw_nils | exact lw_str | exact lw_slo_nils | exact lw_slo_sle | exact lw_sl rfl | exact lw_unb | exact lw_gptr | exact lw_noid rfl | exact lw_cap rfl (Nat.le_refl _) | exact lw_cap rfl (by omega) | assumption)) ?_); exact lws_nil)) (by simp) | exact lb_iter | exact lb_cap (Nat.le_refl _) (Nat.le_refl _) rfl rfl | exact lb_capn (by assumption) (by (first | assumption | exact noIds_tab (fun _ => rfl) _ _ | exact noIds_encL (fun _ => rfl) _ | rfl)) | assumption)) ?_); exact okBlks_nil)⟩)⟩
    refine SSp.last noCx_ok (n := 40) (mkS_le (Nat.le_refl _)) ?_
    rw [cloneU_z]
    exact ⟨trivial, rfl, _, _, [.id 0, .cap 1 0 0], ⟨rfl, rfl⟩, by (exact ⟨by kernel_rfl, by ((repeat refine okTms_cons (by (first | exact lw_any | exact lw_int | exact lw_bool | exact lw_ptr rfl | exact lw_slo rfl | exact lw_nilp | exact lw_nils | exact lw_str | exact lw_slo_nils | exact lw_slo_sle | exact lw_sl rfl | exact lw_unb | exact lw_gptr | exact lw_noid rfl | exact lw_cap rfl (Nat.le_refl _) | exact lw_cap rfl (by omega) | assumption)) ?_); exact okTms_nil), by ((repeat refine okBlks_cons (by (first | exact lb_dead | exact lb_same (by (first | assumption | exact noIds_tab (fun _ => rfl) _ _ | exact noIds_encL (fun _ => rfl) _ | rfl)) | exact lb_ro (by (first | assumption | exact noIds_tab (fun _ => rfl) _ _ | exact noIds_encL (fun _ => rfl) _ | rfl)) | exact lb_none | exact lb_cells (by ((repeat refine lws_cons (by (first | exact lw_any | exact lw_int | exact lw_bool | exact lw_ptr rfl | exact lw_slo rfl | exact lw_nilp | exact lw_nils | exact lw_str | exact lw_slo_nils | exact lw_slo_sle | exact lw_sl rfl | exact lw_unb | exact lw_gptr | exact lw_noid rfl | exact lw_cap rfl (Nat.le_refl _) | exact lw_cap rfl (by omega) | assumption)) ?_); exact lws_nil)) (by simp) | exact lb_iter | exact lb_cap (Nat.le_refl _) (Nat.le_refl _) rfl rfl | exact lb_capn (by assumption) (by (first | assumption | exact noIds_tab (fun _ => rfl) _ _ | exact noIds_encL (fun _ => rfl) _ | rfl)) | assumption)) ?_); exact okBlks_nil)⟩)⟩
  | succ n =>
    refine SSp.last noCx_ok (n := 40) (mkS_le (Nat.le_refl _)) ?_
    rw [cloneU_s]
    have e : xcut cs 0 ((n + 1) * 1) = cs := xcut_all (by omega)
    (try simp only [Nat.mul_one] at e)
    simp only [wd_nat, wd_ix, wd_add, wd_mul, wd_ln, Nat.zero_add, Nat.mul_one, wd_isI, wd_asI, wd_isB, wd_asB, wd_nn, cI_tlen, cB_tlen, cII_tlen, decide_true, cond_true, wd_not_t, wd_not_f, wd_and_t, wd_and_f, e]
    (repeat (with_reducible refine must (by (first | with_reducible rfl | exact t_le (by omega) | exact t_eq (by omega) | exact t_nn (by omega) | exact t_lss (by omega) | exact t_leq (by omega) | exact t_gtr (by omega) | exact t_geq (by omega) | exact t_eql (by omega) | exact t_neq (by omega) | exact t_z (by omega) | exact wd_not_f | assumption)) ?_))
    exact ⟨trivial, rfl, _, _, [.id 0, .id 2], ⟨rfl, rfl⟩, by (exact ⟨by kernel_rfl, by ((repeat refine okTms_cons (by (first | exact lw_any | exact lw_int | exact lw_bool | exact lw_ptr rfl | exact lw_slo rfl | exact lw_nilp | exact lw_nils | exact lw_str | exact lw_slo_nils | exact lw_slo_sle | exact lw_sl rfl | exact lw_unb | exact lw_gptr | exact lw_noid rfl | exact lw_cap rfl (Nat.le_refl _) | exact lw_cap rfl (by omega) | assumption)) ?_); exact okTms_nil), by ((repeat refine okBlks_cons (by (first | exact lb_dead | exact lb_same (by (first | assumption | exact noIds_tab (fun _ => rfl) _ _ | exact noIds_encL (fun _ => rfl) _ | rfl)) | exact lb_ro (by (first | assumption | exact noIds_tab (fun _ => rfl) _ _ | exact noIds_encL (fun _ => rfl) _ | rfl)) | exact lb_none | exact lb_cells (by ((repeat refine lws_cons (by (first | exact lw_any | exact lw_int | exact lw_bool | exact lw_ptr rfl | exact lw_slo rfl | exact lw_nilp | exact lw_nils | exact lw_str | exact lw_slo_nils | exact lw_slo_sle | exact lw_sl rfl | exact lw_unb | exact lw_gptr | exact lw_noid rfl | exact lw_cap rfl (Nat.le_refl _) | exact lw_cap rfl (by omega) | assumption)) ?_); exact lws_nil)) (by simp) | exact lb_iter | exact lb_cap (Nat.le_refl _) (Nat.le_refl _) rfl rfl | exact lb_capn (by assumption) (by (first | assumption | exact noIds_tab (fun _ => rfl) _ _ | exact noIds_encL (fun _ => rfl) _ | rfl)) | assumption)) ?_); exact okBlks_nil)⟩)⟩

/-! a copy of a row: slices.Clone[[]quietus/api.Lock,quietus/api.Lock] -/
theorem cloneL_s (n : Nat) (cs : List LV) (K : Pk) : (xsp Go.Proofs.Try.prog (fun _ => none) 40 8 ((sp Go.Proofs.Try.prog 57).drop 0) (tm0 [.slo 0 0 (n + 1) 0]) (mkS [.cells cs (some 3)]) (vK [0, 2, 4] K)) = (
  bif xle (xadd 0 (xmul (n + 1) 3)) (xln cs) then
  bif xle (xadd 0 (n + 1)) 1000000 then
  K .ret [.slo 0 0 (n + 1) 0, .slo 2 0 (xadd 0 (n + 1)) 0, .bool false] [some (.cells cs (some 3)), some (.cells [] none), some (.cells (xcat [] (xcut cs 0 (xmul (n + 1) 3))) (some 3))] []
  else False
  else False) := by kernel_rfl
theorem cloneL_a (K : Pk) : (xsp Go.Proofs.Try.prog (fun _ => none) 40 8 (seg (sp Go.Proofs.Try.prog 57) 0 2) (tm0 [.slo 0 0 0 0]) (mkS [.cells [] (some 3)]) (vK [0, 2, 4] K)) = (
  K .normal [.slo 0 0 0 0, .nils, .unb] [some (.cells [] (some 3))] []) := by kernel_rfl
theorem cloneL_t (K : Pk) : (xcode Go.Proofs.Try.prog (fun _ => none) 40 8 (condT (nthC (sp Go.Proofs.Try.prog 57) 2)) (mkTm 8 [(0, .slo 0 0 0 0), (4, .unb)]) (mkS [.cells [] (some 3)]) (vK [0, 2, 4] K)) = (
  K .ret [.slo 0 0 0 0, .nils, .unb] [some (.cells [] (some 3))] []) := by kernel_rfl
theorem cloneL_f (K : Pk) : (xcode Go.Proofs.Try.prog (fun _ => none) 40 8 (condF (nthC (sp Go.Proofs.Try.prog 57) 2)) (mkTm 8 [(0, .slo 0 0 0 0), (4, .unb)]) (mkS [.cells [] (some 3)]) (vK [0, 2, 4] K)) = (
  K .normal [.slo 0 0 0 0, .any, .unb] [some (.cells [] (some 3))] []) := by kernel_rfl
theorem cloneL_z (K : Pk) : (xsp Go.Proofs.Try.prog (fun _ => none) 40 8 ((sp Go.Proofs.Try.prog 57).drop 3) (mkTm 8 [(0, .slo 0 0 0 0)]) (mkS [.cells [] (some 3)]) (vK [0, 2, 4] K)) = (
  K .ret [.slo 0 0 0 0, .sl 1 0 0 0, .any] [some (.cells [] (some 3)), some (.cells [] none)] []) := by kernel_rfl
theorem cloneL_ok : GOk Go.Proofs.Try.prog 57 (cloneG 3) := by
  refine cloneG_ok fun n cs hn hl hno => ?_
  refine SFun.mono (SFun.pieces (Q := fun l b => l = .slo 1 0 n 0 ∧ b = [.cells cs (some 3), .cells cs (some 3)]) 8 1 [0, 2, 4] [2] (by kernel_rfl) rfl rfl rfl ?_) fun l s' ⟨b0, ⟨h1, h2⟩, h3⟩ => ⟨h1, by rw [h3, h2]⟩
  cases n with
  | zero =>
    have : cs = [] := List.length_eq_zero_iff.1 (by omega)
    subst this
    refine SSp.to noCx_ok (n := 40) (g := []) 2 2 rfl (σ := Unit) (fun _ => [(0, .slo 0 0 0 0), (4, .unb)]) (fun _ => [.cells [] (some 3)]) (mkS_le (Nat.le_refl _)) (by kernel_rfl) ?_ fun _ => ?_
    · rw [cloneL_a]; exact ⟨rfl, (), [.id 0], by (exact ⟨by kernel_rfl, by ((repeat refine okTms_cons (by (first | exact lw_any | exact lw_int | exact lw_bool | exact lw_ptr rfl | exact lw_slo rfl | exact lw_nilp | exact lw_nils | exact lw_str | exact lw_slo_nils | exact lw_slo_sle | exact lw_sl rfl | exact lw_unb | exact lw_gptr | exact lw_noid rfl | exact lw_cap rfl (Nat.le_refl _) | exact lw_cap rfl (by omega) | assumption)) ?_); exact okTms_nil), by ((repeat refine okBlks_cons (by (first | exact lb_dead | exact lb_same (by (first | assumption | exact noIds_tab (fun _ => rfl) _ _ | exact noIds_encL (fun _ => rfl) _ | rfl)) | exact lb_ro (by (first | assumption | exact noIds_tab (fun _ => rfl) _ _ | exact noIds_encL (fun _ => rfl) _ | rfl)) | exact lb_none | exact lb_cells (by ((repeat refine lws_cons (by (first | exact lw_any | exact lw_int | exact lw_bool | exact lw_ptr rfl | exact lw_slo rfl | exact lw_nilp | exact lw_nils | exact lw_str | exact lw_slo_nils | exact lw_slo_sle | exact lw_sl rfl | exact lw_unb | exact lw_gptr | exact lw_noid rfl | exact lw_cap rfl (Nat.le_refl _) | exact lw_cap rfl (by omega) | assumption)) ?_); exact lws_nil)) (by simp) | exact lb_iter | exact lb_cap (Nat.le_refl _) (Nat.le_refl _) rfl rfl | exact lb_capn (by assumption) (by (first | assumption | exact noIds_tab (fun _ => rfl) _ _ | exact noIds_encL (fun _ => rfl) _ | rfl)) | assumption)) ?_); exact okBlks_nil)⟩)⟩
    refine SSp.code_to (g := []) 3 rfl (σ := Unit) (fun _ => [(0, .slo 0 0 0 0)]) (fun _ => [.cells [] (some 3)]) (by kernel_rfl) ?_ fun _ => ?_
    · refine SCode.unb noCx_ok (n := 40) (by kernel_rfl) (by kernel_rfl) (mkS_le (Nat.le_refl _)) ?_ ?_
      · rw [cloneL_t]; exact ⟨trivial, rfl, _, _, [.id 0, .none], ⟨rfl, rfl⟩, by (exact ⟨by kernel_rfl, by ((repeat refine okTms_cons (by (first | exact lw_any | exact lw_int | exact lw_bool | exact lw_ptr rfl | exact lw_slo rfl | exact lw_nilp | exact lw_nils | exact lw_str | exact lw_slo_nils | exact lw_slo_sle | exact lw_sl rfl | exact lw_unb | exact lw_gptr | exact lw_noid rfl | exact lw_cap rfl (Nat.le_refl _) | exact lw_cap rfl (by omega) | assumption)) ?_); exact okTms_nil), by ((repeat refine okBlks_cons (by (first | exact lb_dead | exact lb_same (by (first | assumption | exact noIds_tab (fun _ => rfl) _ _ | exact noIds_encL (fun _ => rfl) _ | rfl)) | exact lb_ro (by (first | assumption | exact noIds_tab (fun _ => rfl) _ _ | exact noIds_encL (fun _ => rfl) _ | rfl)) | exact lb_none | exact lb_cells (by ((repeat refine lws_cons (by (first | exact lw_any | exact lw_int | exact lw_bool | exact lw_ptr rfl | exact lw_slo rfl | exact lw_nilp | exact lw_nils | exact lw_str | exact lw_slo_nils | exact lw_slo_sle | exact lw_sl rfl | exact lw_unb | exact lw_gptr | exact lw_noid rfl | exact lw_cap rfl (Nat.le_refl _) | exact lw_cap rfl (by omega) | assumption)) ?_); exact lws_nil)) (by simp) | exact lb_iter | exact lb_cap (Nat.le_refl _) (Nat.le_refl _) rfl rfl | exact lb_capn (by assumption) (by (first | assumption | exact noIds_tab (fun _ => rfl) _ _ | exact noIds_encL (fun _ => rfl) _ | rfl)) | assumption)) ?_); exact okBlks_nil)⟩)⟩
      · rw [cloneL_f]; exact ⟨rfl, (), [.id 0], by (exact ⟨by kernel_rfl, by ((repeat refine okTms_cons (by (first | exact lw_any | exact lw_int | exact lw_bool | exact lw_ptr rfl | exact lw_slo rfl | exact lw_nilp | exact lw_nils | exact lw_str | exact lw_slo_nils | exact lw_slo_sle | exact lw_sl rfl | exact lw_unb | exact lw_gptr | exact lw_noid rfl | exact lw_cap rfl (Nat.le_refl _) | exact lw_cap rfl (by omega) | assumption)) ?_); exact okTms_nil), by ((repeat refine okBlks_cons (by (first | exact lb_dead | exact lb_same (by (first | assumption | exact noIds_tab (fun _ => rfl) _ _ | exact noIds_encL (fun _ => rfl) _ | rfl)) | exact lb_ro (by (first | assumption | exact noIds_tab (fun _ => rfl) _ _ | exact noIds_encL (fun _ => rfl) _ | rfl)) | exact lb_none | exact lb_cells (by ((repeat refine lws_cons (by (first | exact lw_any | exact lw_int | exact lw_bool | exact lw_ptr rfl | exact lw_slo rfl | exact lw_nilp | exact lw_nils | exact lw_str | exact lw_slo_nils | exact lw_slo_sle | exact lw_sl rfl | exact lw_unb | exact lw_gptr | exact lw_noid rfl | exact lw_cap rfl (Nat.le_refl _) | exact lw_cap rfl (by omega) | assumption)) ?_); exact lws_nil)) (by simp) | exact lb_iter | exact lb_cap (Nat.le_refl _) (Nat.le_refl _) rfl rfl | exact lb_capn (by assumption) (by (first | assumption | exact noIds_tab (fun _ => rfl) _ _ | exact noIds_encL (fun _ => rfl) _ | rfl)) | assumption)) ?_); exact okBlks_nil)⟩)⟩
    refine SSp.last noCx_ok (n := 40) (mkS_le (Nat.le_refl _)) ?_
    rw [cloneL_z]
    exact ⟨trivial, rfl, _, _, [.id 0, .cap 1 0 0], ⟨rfl, rfl⟩, by (exact ⟨by kernel_rfl, by ((repeat refine okTms_cons (by (first | exact lw_any | exact lw_int | exact lw_bool | exact lw_ptr rfl | exact lw_slo rfl | exact lw_nilp | exact lw_nils | exact lw_str | exact lw_slo_nils | exact lw_slo_sle | exact lw_sl rfl | exact lw_unb | exact lw_gptr | exact lw_noid rfl | exact lw_cap rfl (Nat.le_refl _) | exact lw_cap rfl (by omega) | assumption)) ?_); exact okTms_nil), by ((repeat refine okBlks_cons (by (first | exact lb_dead | exact lb_same (by (first | assumption | exact noIds_tab (fun _ => rfl) _ _ | exact noIds_encL (fun _ => rfl) _ | rfl)) | exact lb_ro (by (first | assumption | exact noIds_tab (fun _ => rfl) _ _ | exact noIds_encL (fun _ => rfl) _ | rfl)) | exact lb_none | exact lb_cells (by ((repeat refine lws_cons (by (first | exact lw_any | exact lw_int | exact lw_bool | exact lw_ptr rfl | exact lw_slo rfl | exact lw_nilp | exact lw_nils | exact lw_str | exact lw_slo_nils | exact lw_slo_sle | exact lw_sl rfl | exact lw_unb | exact lw_gptr | exact lw_noid rfl | exact lw_cap rfl (Nat.le_refl _) | exact lw_cap rfl (by omega) | assumption)) ?_); exact lws_nil)) (by simp) | exact lb_iter | exact lb_cap (Nat.le_refl _) (Nat.le_refl _) rfl rfl | exact lb_capn (by assumption) (by (first | assumption | exact noIds_tab (fun _ => rfl) _ _ | exact noIds_encL (fun _ => rfl) _ | rfl)) | assumption)) ?_); exact okBlks_nil)⟩)⟩
  | succ n =>
    refine SSp.last noCx_ok (n := 40) (mkS_le (Nat.le_refl _)) ?_
    rw [cloneL_s]
    have e : xcut cs 0 ((n + 1) * 3) = cs := xcut_all (by omega)
    (try simp only [Nat.mul_one] at e)
    simp only [wd_nat, wd_ix, wd_add, wd_mul, wd_ln, Nat.zero_add, Nat.mul_one, wd_isI, wd_asI, wd_isB, wd_asB, wd_nn, cI_tlen, cB_tlen, cII_tlen, decide_true, cond_true, wd_not_t, wd_not_f, wd_and_t, wd_and_f, e]
    (repeat (with_reducible refine must (by (first | with_reducible rfl | exact t_le (by omega) | exact t_eq (by omega) | exact t_nn (by omega) | exact t_lss (by omega) | exact t_leq (by omega) | exact t_gtr (by omega) | exact t_geq (by omega) | exact t_eql (by omega) | exact t_neq (by omega) | exact t_z (by omega) | exact wd_not_f | assumption)) ?_))
    exact ⟨trivial, rfl, _, _, [.id 0, .id 2], ⟨rfl, rfl⟩, by (exact ⟨by kernel_rfl, by ((repeat refine okTms_cons (by (first | exact lw_any | exact lw_int | exact lw_bool | exact lw_ptr rfl | exact lw_slo rfl | exact lw_nilp | exact lw_nils | exact lw_str | exact lw_slo_nils | exact lw_slo_sle | exact lw_sl rfl | exact lw_unb | exact lw_gptr | exact lw_noid rfl | exact lw_cap rfl (Nat.le_refl _) | exact lw_cap rfl (by omega) | assumption)) ?_); exact okTms_nil), by ((repeat refine okBlks_cons (by (first | exact lb_dead | exact lb_same (by (first | assumption | exact noIds_tab (fun _ => rfl) _ _ | exact noIds_encL (fun _ => rfl) _ | rfl)) | exact lb_ro (by (first | assumption | exact noIds_tab (fun _ => rfl) _ _ | exact noIds_encL (fun _ => rfl) _ | rfl)) | exact lb_none | exact lb_cells (by ((repeat refine lws_cons (by (first | exact lw_any | exact lw_int | exact lw_bool | exact lw_ptr rfl | exact lw_slo rfl | exact lw_nilp | exact lw_nils | exact lw_str | exact lw_slo_nils | exact lw_slo_sle | exact lw_sl rfl | exact lw_unb | exact lw_gptr | exact lw_noid rfl | exact lw_cap rfl (Nat.le_refl _) | exact lw_cap rfl (by omega) | assumption)) ?_); exact lws_nil)) (by simp) | exact lb_iter | exact lb_cap (Nat.le_refl _) (Nat.le_refl _) rfl rfl | exact lb_capn (by assumption) (by (first | assumption | exact noIds_tab (fun _ => rfl) _ _ | exact noIds_encL (fun _ => rfl) _ | rfl)) | assumption)) ?_); exact okBlks_nil)⟩)⟩

abbrev siTu64 (n m k : Nat) : List (Nat × LV) := [(0, .slo 0 0 n 0), (1, .slo 1 0 m 0), (5, .int .i64 k)]
abbrev siHu64 (cs ds : List LV) : List LB := [.cells cs (some 1), .cells ds (some 1)]
abbrev siLu64 : List Nat := [0, 1, 4, 5]
theorem siu64_a (n m : Nat) (cs ds : List LV) (K : Pk) : (xsp Go.Proofs.Try.prog (fun _ => none) 40 26 (seg (sp Go.Proofs.Try.prog 39) 0 4) (tm0 [.slo 0 0 n 0, .slo 1 0 m 0]) (mkS (siHu64 cs ds)) (vK siLu64 K)) = (
  bif xcm .neq ↑n ↑m then (
   K .ret [.slo 0 0 n 0, .slo 1 0 m 0, .bool false, .tup []] [some (.cells cs (some 1)), some (.cells ds (some 1))] [])
  else (
   K .normal [.slo 0 0 n 0, .slo 1 0 m 0, .bool false, .int .i64 0] [some (.cells cs (some 1)), some (.cells ds (some 1))] [])) := by kernel_rfl
theorem siu64_b (n m k : Nat) (cs ds : List LV) (K : Pk) : (xcode Go.Proofs.Try.prog (fun _ => none) 40 26 (loopOf (nthC (sp Go.Proofs.Try.prog 39) 4)) (mkTm 26 (siTu64 n m k)) (mkS (siHu64 cs ds)) (vK siLu64 K)) = (
  bif xcm .lss ↑k ↑n then (
   bif xle (xadd (xnat ↑k) 1) n then
   bif xle (xadd (xix 0 (xnat ↑k) 1) 1) (xln cs) then
   bif isI .u64 (nthD cs (xix 0 (xnat ↑k) 1)) then
   bif xle (xadd (xnat ↑k) 1) m then
   bif xle (xadd (xix 0 (xnat ↑k) 1) 1) (xln ds) then
   bif isI .u64 (nthD ds (xix 0 (xnat ↑k) 1)) then
   bif xcm .neq (asI (nthD cs (xix 0 (xnat ↑k) 1))) (asI (nthD ds (xix 0 (xnat ↑k) 1))) then (
    K .ret [.slo 0 0 n 0, .slo 1 0 m 0, .bool false, .int .i64 ↑k] [some (.cells cs (some 1)), some (.cells ds (some 1))] [])
   else (
    K .normal [.slo 0 0 n 0, .slo 1 0 m 0, .any, .int .i64 (xar .add .i64 (↑k) 1)] [some (.cells cs (some 1)), some (.cells ds (some 1))] [])
   else False
   else False
   else False
   else False
   else False
   else False)
  else (
   K (.exit 0) [.slo 0 0 n 0, .slo 1 0 m 0, .any, .int .i64 ↑k] [some (.cells cs (some 1)), some (.cells ds (some 1))] [])) := by kernel_rfl
theorem siu64_z (cs ds : List LV) (K : Pk) : (xsp Go.Proofs.Try.prog (fun _ => none) 40 26 ((sp Go.Proofs.Try.prog 39).drop 5) (mkTm 26 []) (mkS (siHu64 cs ds)) (vK siLu64 K)) = (
  K .ret [.any, .any, .bool true, .any] [some (.cells cs (some 1)), some (.cells ds (some 1))] []) := by kernel_rfl
open Classical in
def sameIu64 (n m : Nat) (cs ds : List LV) : Bool := @decide (n = m ∧ cs = ds) (Classical.propDecidable _)

theorem sameIu64_self (n : Nat) (cs : List LV) : sameIu64 n n cs cs = true := by simp [sameIu64]
theorem sameIu64_ok (xs ys : List Int) (hn : xs.length ≤ 9223372036854775807) (hm : ys.length ≤ 9223372036854775807) : SFun Go.Proofs.Try.prog 39 [.slo 0 0 xs.length 0, .slo 1 0 ys.length 0] (mkS (siHu64 (encL (cI .u64) xs) (encL (cI .u64) ys)))
    fun l s => l = .bool (sameIu64 xs.length ys.length (encL (cI .u64) xs) (encL (cI .u64) ys)) ∧ s = mkS (siHu64 (encL (cI .u64) xs) (encL (cI .u64) ys)) := by
  refine SFun.mono (SFun.pieces (Q := fun l b => l = .bool (sameIu64 xs.length ys.length (encL (cI .u64) xs) (encL (cI .u64) ys)) ∧ b = siHu64 (encL (cI .u64) xs) (encL (cI .u64) ys)) 26 2 siLu64 [4] (by kernel_rfl) rfl rfl rfl ?_) fun l s' ⟨b0, ⟨h1, h2⟩, h3⟩ => ⟨h1, by rw [h3, h2]⟩
  have nx := noIds_Iu64 xs
  have ny := noIds_Iu64 ys
  have hinj : ∀ a b : List Int, encL (cI .u64) a = encL (cI .u64) b → a = b := fun a b h => by rw [← decIu64_enc a, h, decIu64_enc]
  refine SSp.to noCx_ok (n := 40) (g := []) 4 4 rfl (σ := {_k : Unit // xs.length = ys.length}) (fun _ => siTu64 xs.length ys.length 0) (fun _ => siHu64 (encL (cI .u64) xs) (encL (cI .u64) ys)) (mkS_le (Nat.le_refl _)) (by kernel_rfl) ?_ fun ⟨_, hnm⟩ => ?_
  · rw [siu64_a, wd_neq]
    by_cases e : xs.length = ys.length
    · simp only [e, decide_true, Bool.not_true, cond_false]
      exact ⟨rfl, ⟨(), e⟩, [.id 0, .id 1], by (exact ⟨by kernel_rfl, by ((repeat refine okTms_cons (by (first | exact lw_any | exact lw_int | exact lw_bool | exact lw_ptr rfl | exact lw_slo rfl | exact lw_nilp | exact lw_nils | exact lw_str | exact lw_slo_nils | exact lw_slo_sle | exact lw_sl rfl | exact lw_unb | exact lw_gptr | exact lw_noid rfl | exact lw_cap rfl (Nat.le_refl _) | exact lw_cap rfl (by omega) | assumption)) ?_); exact okTms_nil), by ((repeat refine okBlks_cons (by (first | exact lb_dead | exact lb_same (by (first | assumption | exact noIds_tab (fun _ => rfl) _ _ | exact noIds_encL (fun _ => rfl) _ | rfl)) | exact lb_ro (by (first | assumption | exact noIds_tab (fun _ => rfl) _ _ | exact noIds_encL (fun _ => rfl) _ | rfl)) | exact lb_none | exact lb_cells (by ((repeat refine lws_cons (by (first | exact lw_any | exact lw_int | exact lw_bool | exact lw_ptr rfl | exact lw_slo rfl | exact lw_nilp | exact lw_nils | exact lw_str | exact lw_slo_nils | exact lw_slo_sle | exact lw_sl rfl | exact lw_unb | exact lw_gptr | exact lw_noid rfl | exact lw_cap rfl (Nat.le_refl _) | exact lw_cap rfl (by omega) | assumption)) ?_); exact lws_nil)) (by simp) | exact lb_iter | exact lb_cap (Nat.le_refl _) (Nat.le_refl _) rfl rfl | exact lb_capn (by assumption) (by (first | assumption | exact noIds_tab (fun _ => rfl) _ _ | exact noIds_encL (fun _ => rfl) _ | rfl)) | assumption)) ?_); exact okBlks_nil)⟩)⟩
    · simp only [e, decide_false, Bool.not_false, cond_true]
      have hs : sameIu64 xs.length ys.length (encL (cI .u64) xs) (encL (cI .u64) ys) = false := by simp only [sameIu64, decide_eq_false_iff_not]; exact fun k => e k.1
      exact ⟨trivial, rfl, _, _, [.id 0, .id 1], ⟨rfl, rfl⟩, by rw [hs]; (exact ⟨by kernel_rfl, by ((repeat refine okTms_cons (by (first | exact lw_any | exact lw_int | exact lw_bool | exact lw_ptr rfl | exact lw_slo rfl | exact lw_nilp | exact lw_nils | exact lw_str | exact lw_slo_nils | exact lw_slo_sle | exact lw_sl rfl | exact lw_unb | exact lw_gptr | exact lw_noid rfl | exact lw_cap rfl (Nat.le_refl _) | exact lw_cap rfl (by omega) | assumption)) ?_); exact okTms_nil), by ((repeat refine okBlks_cons (by (first | exact lb_dead | exact lb_same (by (first | assumption | exact noIds_tab (fun _ => rfl) _ _ | exact noIds_encL (fun _ => rfl) _ | rfl)) | exact lb_ro (by (first | assumption | exact noIds_tab (fun _ => rfl) _ _ | exact noIds_encL (fun _ => rfl) _ | rfl)) | exact lb_none | exact lb_cells (by ((repeat refine lws_cons (by (first | exact lw_any | exact lw_int | exact lw_bool | exact lw_ptr rfl | exact lw_slo rfl | exact lw_nilp | exact lw_nils | exact lw_str | exact lw_slo_nils | exact lw_slo_sle | exact lw_sl rfl | exact lw_unb | exact lw_gptr | exact lw_noid rfl | exact lw_cap rfl (Nat.le_refl _) | exact lw_cap rfl (by omega) | assumption)) ?_); exact lws_nil)) (by simp) | exact lb_iter | exact lb_cap (Nat.le_refl _) (Nat.le_refl _) rfl rfl | exact lb_capn (by assumption) (by (first | assumption | exact noIds_tab (fun _ => rfl) _ _ | exact noIds_encL (fun _ => rfl) _ | rfl)) | assumption)) ?_); exact okBlks_nil)⟩)⟩
  refine SSp.code_to (g := []) 5 rfl (σ := {_k : Unit // xs = ys}) (fun _ => []) (fun _ => siHu64 (encL (cI .u64) xs) (encL (cI .u64) ys)) (by kernel_rfl) ?_ fun ⟨_, hall⟩ => ?_
  · refine SCode.loop_vc noCx_ok (n := 40) 0 (by kernel_rfl) (σ := {k : Nat // k ≤ xs.length ∧ ∀ i (h : i < xs.length) (h' : i < ys.length), i < k → xs[i] = ys[i]}) (fun k => siTu64 xs.length ys.length k.1) (fun _ => siHu64 (encL (cI .u64) xs) (encL (cI .u64) ys)) (fun k => xs.length - k.1) (fun _ => Nat.le_refl _) (fun ⟨k, hk, hall⟩ => ?_) ⟨0, Nat.zero_le _, fun i _ _ hi => absurd hi (by omega)⟩
    dsimp only
    rw [siu64_b, wd_lss]
    refine ite_way (fun h0 => ?_) (fun h0 => ⟨rfl, ⟨(), List.ext_getElem hnm fun i h1 h2 => hall i h1 h2 (by omega)⟩, [.id 0, .id 1], by (exact ⟨by kernel_rfl, by ((repeat refine okTms_cons (by (first | exact lw_any | exact lw_int | exact lw_bool | exact lw_ptr rfl | exact lw_slo rfl | exact lw_nilp | exact lw_nils | exact lw_str | exact lw_slo_nils | exact lw_slo_sle | exact lw_sl rfl | exact lw_unb | exact lw_gptr | exact lw_noid rfl | exact lw_cap rfl (Nat.le_refl _) | exact lw_cap rfl (by omega) | assumption)) ?_); exact okTms_nil), by ((repeat refine okBlks_cons (by (first | exact lb_dead | exact lb_same (by (first | assumption | exact noIds_tab (fun _ => rfl) _ _ | exact noIds_encL (fun _ => rfl) _ | rfl)) | exact lb_ro (by (first | assumption | exact noIds_tab (fun _ => rfl) _ _ | exact noIds_encL (fun _ => rfl) _ | rfl)) | exact lb_none | exact lb_cells (by ((repeat refine lws_cons (by (first | exact lw_any | exact lw_int | exact lw_bool | exact lw_ptr rfl | exact lw_slo rfl | exact lw_nilp | exact lw_nils | exact lw_str | exact lw_slo_nils | exact lw_slo_sle | exact lw_sl rfl | exact lw_unb | exact lw_gptr | exact lw_noid rfl | exact lw_cap rfl (Nat.le_refl _) | exact lw_cap rfl (by omega) | assumption)) ?_); exact lws_nil)) (by simp) | exact lb_iter | exact lb_cap (Nat.le_refl _) (Nat.le_refl _) rfl rfl | exact lb_capn (by assumption) (by (first | assumption | exact noIds_tab (fun _ => rfl) _ _ | exact noIds_encL (fun _ => rfl) _ | rfl)) | assumption)) ?_); exact okBlks_nil)⟩)⟩)
    have h1 : k < ys.length := by omega
    simp only [wd_nat, wd_ix, wd_add, wd_mul, wd_ln, Nat.zero_add, Nat.mul_one, wd_isI, wd_asI, wd_isB, wd_asB, wd_nn, cI_tlen, cB_tlen, cII_tlen, decide_true, cond_true, wd_not_t, wd_not_f, wd_and_t, wd_and_f, encIu64_nth h0, encIu64_nth h1, encIu64_len, inc_i64 h0 hn, xcm_neq]
    (repeat (with_reducible refine must (by (first | with_reducible rfl | exact t_le (by omega) | exact t_eq (by omega) | exact t_nn (by omega) | exact t_lss (by omega) | exact t_leq (by omega) | exact t_gtr (by omega) | exact t_geq (by omega) | exact t_eql (by omega) | exact t_neq (by omega) | exact t_z (by omega) | exact wd_not_f | assumption)) ?_))
    by_cases e : xs[k] = ys[k]
    · simp only [e, decide_true, Bool.not_true, cond_false]
      exact ⟨rfl, ⟨k + 1, h0, fun i h2 h3 hi => by rcases Nat.lt_succ_iff_lt_or_eq.1 hi with hi | rfl; exact hall i h2 h3 hi; exact e⟩, by simp only; omega, [.id 0, .id 1], by (exact ⟨by kernel_rfl, by ((repeat refine okTms_cons (by (first | exact lw_any | exact lw_int | exact lw_bool | exact lw_ptr rfl | exact lw_slo rfl | exact lw_nilp | exact lw_nils | exact lw_str | exact lw_slo_nils | exact lw_slo_sle | exact lw_sl rfl | exact lw_unb | exact lw_gptr | exact lw_noid rfl | exact lw_cap rfl (Nat.le_refl _) | exact lw_cap rfl (by omega) | assumption)) ?_); exact okTms_nil), by ((repeat refine okBlks_cons (by (first | exact lb_dead | exact lb_same (by (first | assumption | exact noIds_tab (fun _ => rfl) _ _ | exact noIds_encL (fun _ => rfl) _ | rfl)) | exact lb_ro (by (first | assumption | exact noIds_tab (fun _ => rfl) _ _ | exact noIds_encL (fun _ => rfl) _ | rfl)) | exact lb_none | exact lb_cells (by ((repeat refine lws_cons (by (first | exact lw_any | exact lw_int | exact lw_bool | exact lw_ptr rfl | exact lw_slo rfl | exact lw_nilp | exact lw_nils | exact lw_str | exact lw_slo_nils | exact lw_slo_sle | exact lw_sl rfl | exact lw_unb | exact lw_gptr | exact lw_noid rfl | exact lw_cap rfl (Nat.le_refl _) | exact lw_cap rfl (by omega) | assumption)) ?_); exact lws_nil)) (by simp) | exact lb_iter | exact lb_cap (Nat.le_refl _) (Nat.le_refl _) rfl rfl | exact lb_capn (by assumption) (by (first | assumption | exact noIds_tab (fun _ => rfl) _ _ | exact noIds_encL (fun _ => rfl) _ | rfl)) | assumption)) ?_); exact okBlks_nil)⟩)⟩
    · have hs : sameIu64 xs.length ys.length (encL (cI .u64) xs) (encL (cI .u64) ys) = false := by
        simp only [sameIu64, decide_eq_false_iff_not]
        intro q
        have := hinj _ _ q.2
        subst this
        exact e rfl
      simp only [e, decide_false, Bool.not_false, cond_true]
      exact ⟨trivial, rfl, _, _, [.id 0, .id 1], ⟨rfl, rfl⟩, by rw [hs]; (exact ⟨by kernel_rfl, by ((repeat refine okTms_cons (by (first | exact lw_any | exact lw_int | exact lw_bool | exact lw_ptr rfl | exact lw_slo rfl | exact lw_nilp | exact lw_nils | exact lw_str | exact lw_slo_nils | exact lw_slo_sle | exact lw_sl rfl | exact lw_unb | exact lw_gptr | exact lw_noid rfl | exact lw_cap rfl (Nat.le_refl _) | exact lw_cap rfl (by omega) | assumption)) ?_); exact okTms_nil), by ((repeat refine okBlks_cons (by (first | exact lb_dead | exact lb_same (by (first | assumption | exact noIds_tab (fun _ => rfl) _ _ | exact noIds_encL (fun _ => rfl) _ | rfl)) | exact lb_ro (by (first | assumption | exact noIds_tab (fun _ => rfl) _ _ | exact noIds_encL (fun _ => rfl) _ | rfl)) | exact lb_none | exact lb_cells (by ((repeat refine lws_cons (by (first | exact lw_any | exact lw_int | exact lw_bool | exact lw_ptr rfl | exact lw_slo rfl | exact lw_nilp | exact lw_nils | exact lw_str | exact lw_slo_nils | exact lw_slo_sle | exact lw_sl rfl | exact lw_unb | exact lw_gptr | exact lw_noid rfl | exact lw_cap rfl (Nat.le_refl _) | exact lw_cap rfl (by omega) | assumption)) ?_); exact lws_nil)) (by simp) | exact lb_iter | exact lb_cap (Nat.le_refl _) (Nat.le_refl _) rfl rfl | exact lb_capn (by assumption) (by (first | assumption | exact noIds_tab (fun _ => rfl) _ _ | exact noIds_encL (fun _ => rfl) _ | rfl)) | assumption)) ?_); exact okBlks_nil)⟩)⟩
  refine SSp.last noCx_ok (n := 40) (mkS_le (Nat.le_refl _)) ?_
  rw [siu64_z]
  have hs : sameIu64 xs.length ys.length (encL (cI .u64) xs) (encL (cI .u64) ys) = true := by
    simp only [sameIu64, decide_eq_true_eq]; exact ⟨hnm, by rw [hall]⟩
  exact ⟨trivial, rfl, _, _, [.id 0, .id 1], ⟨rfl, rfl⟩, by rw [hs]; (exact ⟨by kernel_rfl, by ((repeat refine okTms_cons (by (first | exact lw_any | exact lw_int | exact lw_bool | exact lw_ptr rfl | exact lw_slo rfl | exact lw_nilp | exact lw_nils | exact lw_str | exact lw_slo_nils | exact lw_slo_sle | exact lw_sl rfl | exact lw_unb | exact lw_gptr | exact lw_noid rfl | exact lw_cap rfl (Nat.le_refl _) | exact lw_cap rfl (by omega) | assumption)) ?_); exact okTms_nil), by ((repeat refine okBlks_cons (by (first | exact lb_dead | exact lb_same (by (first | assumption | exact noIds_tab (fun _ => rfl) _ _ | exact noIds_encL (fun _ => rfl) _ | rfl)) | exact lb_ro (by (first | assumption | exact noIds_tab (fun _ => rfl) _ _ | exact noIds_encL (fun _ => rfl) _ | rfl)) | exact lb_none | exact lb_cells (by ((repeat refine lws_cons (by (first | exact lw_any | exact lw_int | exact lw_bool | exact lw_ptr rfl | exact lw_slo rfl | exact lw_nilp | exact lw_nils | exact lw_str | exact lw_slo_nils | exact lw_slo_sle | exact lw_sl rfl | exact lw_unb | exact lw_gptr | exact lw_noid rfl | exact lw_cap rfl (Nat.le_refl _) | exact lw_cap rfl (by omega) | assumption)) ?_); exact lws_nil)) (by simp) | exact lb_iter | exact lb_cap (Nat.le_refl _) (Nat.le_refl _) rfl rfl | exact lb_capn (by assumption) (by (first | assumption | exact noIds_tab (fun _ => rfl) _ _ | exact noIds_encL (fun _ => rfl) _ | rfl)) | assumption)) ?_); exact okBlks_nil)⟩)⟩
def sameIu64G : Gc := fun args s => match args with
  | [.slo b 0 n 0, .slo c 0 m 0] => (match s.h.get b, s.h.get c, s.g with
    | some (.cells cs (some 1)), some (.cells ds (some 1)), [] => cond (Nat.beq b c) none (some ([okIu64 cs n, okIu64 ds m], .bool (sameIu64 n m cs ds), s))
    | _, _, _ => none)
  | _ => none
theorem sameIu64G_ok : GOk Go.Proofs.Try.prog 39 sameIu64G := by
  intro args s bs l s' hg hb hfr
  unfold sameIu64G at hg
  split at hg
  · rename_i b n c m
    split at hg
    · rename_i cs ds hb1 hc1 hgl
      cases hbc : Nat.beq b c with
      | true => rw [hbc] at hg; cases hg
      | false =>
        rw [hbc] at hg
        simp only [cond_false, Option.some.injEq, Prod.mk.injEq] at hg
        obtain ⟨rfl, rfl, rfl⟩ := hg
        obtain ⟨k1, k2⟩ := allT_cons.1 hb
        obtain ⟨xs, rfl, rfl, h1⟩ := okIu64_iff.1 k1
        obtain ⟨ys, rfl, rfl, h2⟩ := okIu64_iff.1 (allT_cons.1 k2).1
        have nx := noIds_Iu64 xs
        have ny := noIds_Iu64 ys
        refine SFun.lift_ro (ρ := [b, c]) (bs := siHu64 (encL (cI .u64) xs) (encL (cI .u64) ys)) (args0 := [.slo 0 0 xs.length 0, .slo 1 0 ys.length 0]) hfr (by simp [beq_ne hbc]) ⟨⟨there hfr hb1, _, hb1, by (first | exact lb_dead | exact lb_same (by (first | assumption | exact noIds_tab (fun _ => rfl) _ _ | exact noIds_encL (fun _ => rfl) _ | rfl)) | exact lb_ro (by (first | assumption | exact noIds_tab (fun _ => rfl) _ _ | exact noIds_encL (fun _ => rfl) _ | rfl)) | exact lb_none | exact lb_cells (by ((repeat refine lws_cons (by (first | exact lw_any | exact lw_int | exact lw_bool | exact lw_ptr rfl | exact lw_slo rfl | exact lw_nilp | exact lw_nils | exact lw_str | exact lw_slo_nils | exact lw_slo_sle | exact lw_sl rfl | exact lw_unb | exact lw_gptr | exact lw_noid rfl | exact lw_cap rfl (Nat.le_refl _) | exact lw_cap rfl (by omega) | assumption)) ?_); exact lws_nil)) (by simp) | exact lb_iter | exact lb_cap (Nat.le_refl _) (Nat.le_refl _) rfl rfl | exact lb_capn (by assumption) (by (first | assumption | exact noIds_tab (fun _ => rfl) _ _ | exact noIds_encL (fun _ => rfl) _ | rfl)) | assumption), fun κ hκ => by (first | exact lb_dead | exact lb_same (by (first | assumption | exact noIds_tab (fun _ => rfl) _ _ | exact noIds_encL (fun _ => rfl) _ | rfl)) | exact lb_ro (by (first | assumption | exact noIds_tab (fun _ => rfl) _ _ | exact noIds_encL (fun _ => rfl) _ | rfl)) | exact lb_none | exact lb_cells (by ((repeat refine lws_cons (by (first | exact lw_any | exact lw_int | exact lw_bool | exact lw_ptr rfl | exact lw_slo rfl | exact lw_nilp | exact lw_nils | exact lw_str | exact lw_slo_nils | exact lw_slo_sle | exact lw_sl rfl | exact lw_unb | exact lw_gptr | exact lw_noid rfl | exact lw_cap rfl (Nat.le_refl _) | exact lw_cap rfl (by omega) | assumption)) ?_); exact lws_nil)) (by simp) | exact lb_iter | exact lb_cap (Nat.le_refl _) (Nat.le_refl _) rfl rfl | exact lb_capn (by assumption) (by (first | assumption | exact noIds_tab (fun _ => rfl) _ _ | exact noIds_encL (fun _ => rfl) _ | rfl)) | assumption)⟩, ⟨there hfr hc1, _, hc1, by (first | exact lb_dead | exact lb_same (by (first | assumption | exact noIds_tab (fun _ => rfl) _ _ | exact noIds_encL (fun _ => rfl) _ | rfl)) | exact lb_ro (by (first | assumption | exact noIds_tab (fun _ => rfl) _ _ | exact noIds_encL (fun _ => rfl) _ | rfl)) | exact lb_none | exact lb_cells (by ((repeat refine lws_cons (by (first | exact lw_any | exact lw_int | exact lw_bool | exact lw_ptr rfl | exact lw_slo rfl | exact lw_nilp | exact lw_nils | exact lw_str | exact lw_slo_nils | exact lw_slo_sle | exact lw_sl rfl | exact lw_unb | exact lw_gptr | exact lw_noid rfl | exact lw_cap rfl (Nat.le_refl _) | exact lw_cap rfl (by omega) | assumption)) ?_); exact lws_nil)) (by simp) | exact lb_iter | exact lb_cap (Nat.le_refl _) (Nat.le_refl _) rfl rfl | exact lb_capn (by assumption) (by (first | assumption | exact noIds_tab (fun _ => rfl) _ _ | exact noIds_encL (fun _ => rfl) _ | rfl)) | assumption), fun κ hκ => by (first | exact lb_dead | exact lb_same (by (first | assumption | exact noIds_tab (fun _ => rfl) _ _ | exact noIds_encL (fun _ => rfl) _ | rfl)) | exact lb_ro (by (first | assumption | exact noIds_tab (fun _ => rfl) _ _ | exact noIds_encL (fun _ => rfl) _ | rfl)) | exact lb_none | exact lb_cells (by ((repeat refine lws_cons (by (first | exact lw_any | exact lw_int | exact lw_bool | exact lw_ptr rfl | exact lw_slo rfl | exact lw_nilp | exact lw_nils | exact lw_str | exact lw_slo_nils | exact lw_slo_sle | exact lw_sl rfl | exact lw_unb | exact lw_gptr | exact lw_noid rfl | exact lw_cap rfl (Nat.le_refl _) | exact lw_cap rfl (by omega) | assumption)) ?_); exact lws_nil)) (by simp) | exact lb_iter | exact lb_cap (Nat.le_refl _) (Nat.le_refl _) rfl rfl | exact lb_capn (by assumption) (by (first | assumption | exact noIds_tab (fun _ => rfl) _ _ | exact noIds_encL (fun _ => rfl) _ | rfl)) | assumption)⟩, trivial⟩ (by ((repeat refine lws_cons (by (first | exact lw_any | exact lw_int | exact lw_bool | exact lw_ptr rfl | exact lw_slo rfl | exact lw_nilp | exact lw_nils | exact lw_str | exact lw_slo_nils | exact lw_slo_sle | exact lw_sl rfl | exact lw_unb | exact lw_gptr | exact lw_noid rfl | exact lw_cap rfl (Nat.le_refl _) | exact lw_cap rfl (by omega) | assumption)) ?_); exact lws_nil)) rfl ?_
        rw [hgl]
        exact sameIu64_ok xs ys h1 h2
    · cases hg
  · cases hg

abbrev sl_T (n m k : Nat) : List (Nat × LV) := [(0, .slo 0 0 n 0), (1, .slo 1 0 m 0), (5, .int .i64 k)]
abbrev sl_H (cs ds : List LV) : List LB := [.cells cs (some 3), .cells ds (some 3)]
abbrev sl_L : List Nat := [0, 1, 4, 5]
theorem sl__a (n m : Nat) (cs ds : List LV) (K : Pk) : (xsp Go.Proofs.Try.prog (fun _ => none) 40 26 (seg (sp Go.Proofs.Try.prog 40) 0 4) (tm0 [.slo 0 0 n 0, .slo 1 0 m 0]) (mkS (sl_H cs ds)) (vK sl_L K)) = (
  bif xcm .neq ↑n ↑m then (
   K .ret [.slo 0 0 n 0, .slo 1 0 m 0, .bool false, .tup []] [some (.cells cs (some 3)), some (.cells ds (some 3))] [])
  else (
   K .normal [.slo 0 0 n 0, .slo 1 0 m 0, .bool false, .int .i64 0] [some (.cells cs (some 3)), some (.cells ds (some 3))] [])) := by kernel_rfl
theorem sl__b (n m k : Nat) (cs ds : List LV) (K : Pk) : (xcode Go.Proofs.Try.prog (fun _ => none) 40 26 (loopOf (nthC (sp Go.Proofs.Try.prog 40) 4)) (mkTm 26 (sl_T n m k)) (mkS (sl_H cs ds)) (vK sl_L K)) = (
  bif xcm .lss ↑k ↑n then (
   bif xle (xadd (xnat ↑k) 1) n then
   bif xle (xadd (xix 0 (xnat ↑k) 3) 3) (xln cs) then
   bif isI .u64 (nthD cs (xix 0 (xnat ↑k) 3)) then
   bif isB (nthD cs (xadd (xix 0 (xnat ↑k) 3) 1)) then
   bif isI .i64 (nthD cs (xadd (xadd (xix 0 (xnat ↑k) 3) 1) 1)) then
   bif xle (xadd (xnat ↑k) 1) m then
   bif xle (xadd (xix 0 (xnat ↑k) 3) 3) (xln ds) then
   bif isI .u64 (nthD ds (xix 0 (xnat ↑k) 3)) then
   bif isB (nthD ds (xadd (xix 0 (xnat ↑k) 3) 1)) then
   bif isI .i64 (nthD ds (xadd (xadd (xix 0 (xnat ↑k) 3) 1) 1)) then
   bif xnot (xand (xcm .eql (asI (nthD cs (xix 0 (xnat ↑k) 3))) (asI (nthD ds (xix 0 (xnat ↑k) 3)))) (xand (xbq (asB (nthD cs (xadd (xix 0 (xnat ↑k) 3) 1))) (asB (nthD ds (xadd (xix 0 (xnat ↑k) 3) 1)))) (xand (xcm .eql (asI (nthD cs (xadd (xadd (xix 0 (xnat ↑k) 3) 1) 1))) (asI (nthD ds (xadd (xadd (xix 0 (xnat ↑k) 3) 1) 1)))) true))) then (
    K .ret [.slo 0 0 n 0, .slo 1 0 m 0, .bool false, .int .i64 ↑k] [some (.cells cs (some 3)), some (.cells ds (some 3))] [])
   else (
    K .normal [.slo 0 0 n 0, .slo 1 0 m 0, .any, .int .i64 (xar .add .i64 (↑k) 1)] [some (.cells cs (some 3)), some (.cells ds (some 3))] [])
   else False
   else False
   else False
   else False
   else False
   else False
   else False
   else False
   else False
   else False)
  else (
   K (.exit 0) [.slo 0 0 n 0, .slo 1 0 m 0, .any, .int .i64 ↑k] [some (.cells cs (some 3)), some (.cells ds (some 3))] [])) := by kernel_rfl
theorem sl__z (cs ds : List LV) (K : Pk) : (xsp Go.Proofs.Try.prog (fun _ => none) 40 26 ((sp Go.Proofs.Try.prog 40).drop 5) (mkTm 26 []) (mkS (sl_H cs ds)) (vK sl_L K)) = (
  K .ret [.any, .any, .bool true, .any] [some (.cells cs (some 3)), some (.cells ds (some 3))] []) := by kernel_rfl
open Classical in
def sameL (n m : Nat) (cs ds : List LV) : Bool := @decide (n = m ∧ cs = ds) (Classical.propDecidable _)

theorem sameL_self (n : Nat) (cs : List LV) : sameL n n cs cs = true := by simp [sameL]
theorem sameL_ok (xs ys : List Lk) (hn : xs.length ≤ 1000000) (hm : ys.length ≤ 1000000) : SFun Go.Proofs.Try.prog 40 [.slo 0 0 xs.length 0, .slo 1 0 ys.length 0] (mkS (sl_H (encL cL xs) (encL cL ys)))
    fun l s => l = .bool (sameL xs.length ys.length (encL cL xs) (encL cL ys)) ∧ s = mkS (sl_H (encL cL xs) (encL cL ys)) := by
  refine SFun.mono (SFun.pieces (Q := fun l b => l = .bool (sameL xs.length ys.length (encL cL xs) (encL cL ys)) ∧ b = sl_H (encL cL xs) (encL cL ys)) 26 2 sl_L [4] (by kernel_rfl) rfl rfl rfl ?_) fun l s' ⟨b0, ⟨h1, h2⟩, h3⟩ => ⟨h1, by rw [h3, h2]⟩
  have nx := noids_l xs
  have ny := noids_l ys
  have hinj : ∀ a b : List Lk, encL cL a = encL cL b → a = b := fun a b h => by rw [← decL_enc a, h, decL_enc]
  refine SSp.to noCx_ok (n := 40) (g := []) 4 4 rfl (σ := {_k : Unit // xs.length = ys.length}) (fun _ => sl_T xs.length ys.length 0) (fun _ => sl_H (encL cL xs) (encL cL ys)) (mkS_le (Nat.le_refl _)) (by kernel_rfl) ?_ fun ⟨_, hnm⟩ => ?_
  · rw [sl__a, wd_neq]
    by_cases e : xs.length = ys.length
    · simp only [e, decide_true, Bool.not_true, cond_false]
      exact ⟨rfl, ⟨(), e⟩, [.id 0, .id 1], by (exact ⟨by kernel_rfl, by ((repeat refine okTms_cons (by (first | exact lw_any | exact lw_int | exact lw_bool | exact lw_ptr rfl | exact lw_slo rfl | exact lw_nilp | exact lw_nils | exact lw_str | exact lw_slo_nils | exact lw_slo_sle | exact lw_sl rfl | exact lw_unb | exact lw_gptr | exact lw_noid rfl | exact lw_cap rfl (Nat.le_refl _) | exact lw_cap rfl (by omega) | assumption)) ?_); exact okTms_nil), by ((repeat refine okBlks_cons (by (first | exact lb_dead | exact lb_same (by (first | assumption | exact noIds_tab (fun _ => rfl) _ _ | exact noIds_encL (fun _ => rfl) _ | rfl)) | exact lb_ro (by (first | assumption | exact noIds_tab (fun _ => rfl) _ _ | exact noIds_encL (fun _ => rfl) _ | rfl)) | exact lb_none | exact lb_cells (by ((repeat refine lws_cons (by (first | exact lw_any | exact lw_int | exact lw_bool | exact lw_ptr rfl | exact lw_slo rfl | exact lw_nilp | exact lw_nils | exact lw_str | exact lw_slo_nils | exact lw_slo_sle | exact lw_sl rfl | exact lw_unb | exact lw_gptr | exact lw_noid rfl | exact lw_cap rfl (Nat.le_refl _) | exact lw_cap rfl (by omega) | assumption)) ?_); exact lws_nil)) (by simp) | exact lb_iter | exact lb_cap (Nat.le_refl _) (Nat.le_refl _) rfl rfl | exact lb_capn (by assumption) (by (first | assumption | exact noIds_tab (fun _ => rfl) _ _ | exact noIds_encL (fun _ => rfl) _ | rfl)) | assumption)) ?_); exact okBlks_nil)⟩)⟩
    · simp only [e, decide_false, Bool.not_false, cond_true]
      have hs : sameL xs.length ys.length (encL cL xs) (encL cL ys) = false := by simp only [sameL, decide_eq_false_iff_not]; exact fun k => e k.1
      exact ⟨trivial, rfl, _, _, [.id 0, .id 1], ⟨rfl, rfl⟩, by rw [hs]; (exact ⟨by kernel_rfl, by ((repeat refine okTms_cons (by (first | exact lw_any | exact lw_int | exact lw_bool | exact lw_ptr rfl | exact lw_slo rfl | exact lw_nilp | exact lw_nils | exact lw_str | exact lw_slo_nils | exact lw_slo_sle | exact lw_sl rfl | exact lw_unb | exact lw_gptr | exact lw_noid rfl | exact lw_cap rfl (Nat.le_refl _) | exact lw_cap rfl (by omega) | assumption)) ?_); exact okTms_nil), by ((repeat refine okBlks_cons (by (first | exact lb_dead | exact lb_same (by (first | assumption | exact noIds_tab (fun _ => rfl) _ _ | exact noIds_encL (fun _ => rfl) _ | rfl)) | exact lb_ro (by (first | assumption | exact noIds_tab (fun _ => rfl) _ _ | exact noIds_encL (fun _ => rfl) _ | rfl)) | exact lb_none | exact lb_cells (by ((repeat refine lws_cons (by (first | exact lw_any | exact lw_int | exact lw_bool | exact lw_ptr rfl | exact lw_slo rfl | exact lw_nilp | exact lw_nils | exact lw_str | exact lw_slo_nils | exact lw_slo_sle | exact lw_sl rfl | exact lw_unb | exact lw_gptr | exact lw_noid rfl | exact lw_cap rfl (Nat.le_refl _) | exact lw_cap rfl (by omega) | assumption)) ?_); exact lws_nil)) (by simp) | exact lb_iter | exact lb_cap (Nat.le_refl _) (Nat.le_refl _) rfl rfl | exact lb_capn (by assumption) (by (first | assumption | exact noIds_tab (fun _ => rfl) _ _ | exact noIds_encL (fun _ => rfl) _ | rfl)) | assumption)) ?_); exact okBlks_nil)⟩)⟩
  refine SSp.code_to (g := []) 5 rfl (σ := {_k : Unit // xs = ys}) (fun _ => []) (fun _ => sl_H (encL cL xs) (encL cL ys)) (by kernel_rfl) ?_ fun ⟨_, hall⟩ => ?_
  · refine SCode.loop_vc noCx_ok (n := 40) 0 (by kernel_rfl) (σ := {k : Nat // k ≤ xs.length ∧ ∀ i (h : i < xs.length) (h' : i < ys.length), i < k → xs[i] = ys[i]}) (fun k => sl_T xs.length ys.length k.1) (fun _ => sl_H (encL cL xs) (encL cL ys)) (fun k => xs.length - k.1) (fun _ => Nat.le_refl _) (fun ⟨k, hk, hall⟩ => ?_) ⟨0, Nat.zero_le _, fun i _ _ hi => absurd hi (by omega)⟩
    dsimp only
    rw [sl__b, wd_lss]
    refine ite_way (fun h0 => ?_) (fun h0 => ⟨rfl, ⟨(), List.ext_getElem hnm fun i h1 h2 => hall i h1 h2 (by omega)⟩, [.id 0, .id 1], by (exact ⟨by kernel_rfl, by ((repeat refine okTms_cons (by (first | exact lw_any | exact lw_int | exact lw_bool | exact lw_ptr rfl | exact lw_slo rfl | exact lw_nilp | exact lw_nils | exact lw_str | exact lw_slo_nils | exact lw_slo_sle | exact lw_sl rfl | exact lw_unb | exact lw_gptr | exact lw_noid rfl | exact lw_cap rfl (Nat.le_refl _) | exact lw_cap rfl (by omega) | assumption)) ?_); exact okTms_nil), by ((repeat refine okBlks_cons (by (first | exact lb_dead | exact lb_same (by (first | assumption | exact noIds_tab (fun _ => rfl) _ _ | exact noIds_encL (fun _ => rfl) _ | rfl)) | exact lb_ro (by (first | assumption | exact noIds_tab (fun _ => rfl) _ _ | exact noIds_encL (fun _ => rfl) _ | rfl)) | exact lb_none | exact lb_cells (by ((repeat refine lws_cons (by (first | exact lw_any | exact lw_int | exact lw_bool | exact lw_ptr rfl | exact lw_slo rfl | exact lw_nilp | exact lw_nils | exact lw_str | exact lw_slo_nils | exact lw_slo_sle | exact lw_sl rfl | exact lw_unb | exact lw_gptr | exact lw_noid rfl | exact lw_cap rfl (Nat.le_refl _) | exact lw_cap rfl (by omega) | assumption)) ?_); exact lws_nil)) (by simp) | exact lb_iter | exact lb_cap (Nat.le_refl _) (Nat.le_refl _) rfl rfl | exact lb_capn (by assumption) (by (first | assumption | exact noIds_tab (fun _ => rfl) _ _ | exact noIds_encL (fun _ => rfl) _ | rfl)) | assumption)) ?_); exact okBlks_nil)⟩)⟩)
    have h1 : k < ys.length := by omega
    simp only [wd_nat, wd_ix, wd_add, wd_mul, wd_ln, Nat.zero_add, Nat.mul_one, wd_isI, wd_asI, wd_isB, wd_asB, wd_nn, cI_tlen, cB_tlen, cII_tlen, decide_true, cond_true, wd_not_t, wd_not_f, wd_and_t, wd_and_f, lk_0 h0, lk_0 h1, lk_1 h0, lk_1 h1, lk_2' h0, lk_2' h1, lk_n, inc_i64 h0 (show xs.length ≤ 9223372036854775807 by omega), lkEq]
    (repeat (with_reducible refine must (by (first | with_reducible rfl | exact t_le (by omega) | exact t_eq (by omega) | exact t_nn (by omega) | exact t_lss (by omega) | exact t_leq (by omega) | exact t_gtr (by omega) | exact t_geq (by omega) | exact t_eql (by omega) | exact t_neq (by omega) | exact t_z (by omega) | exact wd_not_f | assumption)) ?_))
    by_cases e : xs[k] = ys[k]
    · simp only [show decide (xs[k] = (ys[k].1, ys[k].2.1, ys[k].2.2)) = true from decide_eq_true e, wd_not_t, cond_false]
      exact ⟨rfl, ⟨k + 1, h0, fun i h2 h3 hi => by rcases Nat.lt_succ_iff_lt_or_eq.1 hi with hi | rfl; exact hall i h2 h3 hi; exact e⟩, by simp only; omega, [.id 0, .id 1], by (exact ⟨by kernel_rfl, by ((repeat refine okTms_cons (by (first | exact lw_any | exact lw_int | exact lw_bool | exact lw_ptr rfl | exact lw_slo rfl | exact lw_nilp | exact lw_nils | exact lw_str | exact lw_slo_nils | exact lw_slo_sle | exact lw_sl rfl | exact lw_unb | exact lw_gptr | exact lw_noid rfl | exact lw_cap rfl (Nat.le_refl _) | exact lw_cap rfl (by omega) | assumption)) ?_); exact okTms_nil), by ((repeat refine okBlks_cons (by (first | exact lb_dead | exact lb_same (by (first | assumption | exact noIds_tab (fun _ => rfl) _ _ | exact noIds_encL (fun _ => rfl) _ | rfl)) | exact lb_ro (by (first | assumption | exact noIds_tab (fun _ => rfl) _ _ | exact noIds_encL (fun _ => rfl) _ | rfl)) | exact lb_none | exact lb_cells (by ((repeat refine lws_cons (by (first | exact lw_any | exact lw_int | exact lw_bool | exact lw_ptr rfl | exact lw_slo rfl | exact lw_nilp | exact lw_nils | exact lw_str | exact lw_slo_nils | exact lw_slo_sle | exact lw_sl rfl | exact lw_unb | exact lw_gptr | exact lw_noid rfl | exact lw_cap rfl (Nat.le_refl _) | exact lw_cap rfl (by omega) | assumption)) ?_); exact lws_nil)) (by simp) | exact lb_iter | exact lb_cap (Nat.le_refl _) (Nat.le_refl _) rfl rfl | exact lb_capn (by assumption) (by (first | assumption | exact noIds_tab (fun _ => rfl) _ _ | exact noIds_encL (fun _ => rfl) _ | rfl)) | assumption)) ?_); exact okBlks_nil)⟩)⟩
    · have hs : sameL xs.length ys.length (encL cL xs) (encL cL ys) = false := by
        simp only [sameL, decide_eq_false_iff_not]
        intro q
        have := hinj _ _ q.2
        subst this
        exact e rfl
      have ht : decide (xs[k] = (ys[k].1, ys[k].2.1, ys[k].2.2)) = false := decide_eq_false e
      rw [ht, wd_not_f, cond_true]
      exact ⟨trivial, rfl, _, _, [.id 0, .id 1], ⟨rfl, rfl⟩, by rw [hs]; (exact ⟨by kernel_rfl, by ((repeat refine okTms_cons (by (first | exact lw_any | exact lw_int | exact lw_bool | exact lw_ptr rfl | exact lw_slo rfl | exact lw_nilp | exact lw_nils | exact lw_str | exact lw_slo_nils | exact lw_slo_sle | exact lw_sl rfl | exact lw_unb | exact lw_gptr | exact lw_noid rfl | exact lw_cap rfl (Nat.le_refl _) | exact lw_cap rfl (by omega) | assumption)) ?_); exact okTms_nil), by ((repeat refine okBlks_cons (by (first | exact lb_dead | exact lb_same (by (first | assumption | exact noIds_tab (fun _ => rfl) _ _ | exact noIds_encL (fun _ => rfl) _ | rfl)) | exact lb_ro (by (first | assumption | exact noIds_tab (fun _ => rfl) _ _ | exact noIds_encL (fun _ => rfl) _ | rfl)) | exact lb_none | exact lb_cells (by ((repeat refine lws_cons (by (first | exact lw_any | exact lw_int | exact lw_bool | exact lw_ptr rfl | exact lw_slo rfl | exact lw_nilp | exact lw_nils | exact lw_str | exact lw_slo_nils | exact lw_slo_sle | exact lw_sl rfl | exact lw_unb | exact lw_gptr | exact lw_noid rfl | exact lw_cap rfl (Nat.le_refl _) | exact lw_cap rfl (by omega) | assumption)) ?_); exact lws_nil)) (by simp) | exact lb_iter | exact lb_cap (Nat.le_refl _) (Nat.le_refl _) rfl rfl | exact lb_capn (by assumption) (by (first | assumption | exact noIds_tab (fun _ => rfl) _ _ | exact noIds_encL (fun _ => rfl) _ | rfl)) | assumption)) ?_); exact okBlks_nil)⟩)⟩
  refine SSp.last noCx_ok (n := 40) (mkS_le (Nat.le_refl _)) ?_
  rw [sl__z]
  have hs : sameL xs.length ys.length (encL cL xs) (encL cL ys) = true := by
    simp only [sameL, decide_eq_true_eq]; exact ⟨hnm, by rw [hall]⟩
  exact ⟨trivial, rfl, _, _, [.id 0, .id 1], ⟨rfl, rfl⟩, by rw [hs]; (exact ⟨by kernel_rfl, by ((repeat refine okTms_cons (by (first | exact lw_any | exact lw_int | exact lw_bool | exact lw_ptr rfl | exact lw_slo rfl | exact lw_nilp | exact lw_nils | exact lw_str | exact lw_slo_nils | exact lw_slo_sle | exact lw_sl rfl | exact lw_unb | exact lw_gptr | exact lw_noid rfl | exact lw_cap rfl (Nat.le_refl _) | exact lw_cap rfl (by omega) | assumption)) ?_); exact okTms_nil), by ((repeat refine okBlks_cons (by (first | exact lb_dead | exact lb_same (by (first | assumption | exact noIds_tab (fun _ => rfl) _ _ | exact noIds_encL (fun _ => rfl) _ | rfl)) | exact lb_ro (by (first | assumption | exact noIds_tab (fun _ => rfl) _ _ | exact noIds_encL (fun _ => rfl) _ | rfl)) | exact lb_none | exact lb_cells (by ((repeat refine lws_cons (by (first | exact lw_any | exact lw_int | exact lw_bool | exact lw_ptr rfl | exact lw_slo rfl | exact lw_nilp | exact lw_nils | exact lw_str | exact lw_slo_nils | exact lw_slo_sle | exact lw_sl rfl | exact lw_unb | exact lw_gptr | exact lw_noid rfl | exact lw_cap rfl (Nat.le_refl _) | exact lw_cap rfl (by omega) | assumption)) ?_); exact lws_nil)) (by simp) | exact lb_iter | exact lb_cap (Nat.le_refl _) (Nat.le_refl _) rfl rfl | exact lb_capn (by assumption) (by (first | assumption | exact noIds_tab (fun _ => rfl) _ _ | exact noIds_encL (fun _ => rfl) _ | rfl)) | assumption)) ?_); exact okBlks_nil)⟩)⟩
def sameLG : Gc := fun args s => match args with
  | [.slo b 0 n 0, .slo c 0 m 0] => (match s.h.get b, s.h.get c, s.g with
    | some (.cells cs (some 3)), some (.cells ds (some 3)), [] => cond (Nat.beq b c) none (some ([okL cs n, okL ds m], .bool (sameL n m cs ds), s))
    | _, _, _ => none)
  | _ => none
theorem sameLG_ok : GOk Go.Proofs.Try.prog 40 sameLG := by
  intro args s bs l s' hg hb hfr
  unfold sameLG at hg
  split at hg
  · rename_i b n c m
    split at hg
    · rename_i cs ds hb1 hc1 hgl
      cases hbc : Nat.beq b c with
      | true => rw [hbc] at hg; cases hg
      | false =>
        rw [hbc] at hg
        simp only [cond_false, Option.some.injEq, Prod.mk.injEq] at hg
        obtain ⟨rfl, rfl, rfl⟩ := hg
        obtain ⟨k1, k2⟩ := allT_cons.1 hb
        obtain ⟨xs, rfl, rfl, h1⟩ := okL_iff.1 k1
        obtain ⟨ys, rfl, rfl, h2⟩ := okL_iff.1 (allT_cons.1 k2).1
        have nx := noids_l xs
        have ny := noids_l ys
        refine SFun.lift_ro (ρ := [b, c]) (bs := sl_H (encL cL xs) (encL cL ys)) (args0 := [.slo 0 0 xs.length 0, .slo 1 0 ys.length 0]) hfr (by simp [beq_ne hbc]) ⟨⟨there hfr hb1, _, hb1, by (first | exact lb_dead | exact lb_same (by (first | assumption | exact noIds_tab (fun _ => rfl) _ _ | exact noIds_encL (fun _ => rfl) _ | rfl)) | exact lb_ro (by (first | assumption | exact noIds_tab (fun _ => rfl) _ _ | exact noIds_encL (fun _ => rfl) _ | rfl)) | exact lb_none | exact lb_cells (by ((repeat refine lws_cons (by (first | exact lw_any | exact lw_int | exact lw_bool | exact lw_ptr rfl | exact lw_slo rfl | exact lw_nilp | exact lw_nils | exact lw_str | exact lw_slo_nils | exact lw_slo_sle | exact lw_sl rfl | exact lw_unb | exact lw_gptr | exact lw_noid rfl | exact lw_cap rfl (Nat.le_refl _) | exact lw_cap rfl (by omega) | assumption)) ?_); exact lws_nil)) (by simp) | exact lb_iter | exact lb_cap (Nat.le_refl _) (Nat.le_refl _) rfl rfl | exact lb_capn (by assumption) (by (first | assumption | exact noIds_tab (fun _ => rfl) _ _ | exact noIds_encL (fun _ => rfl) _ | rfl)) | assumption), fun κ hκ => by (first | exact lb_dead | exact lb_same (by (first | assumption | exact noIds_tab (fun _ => rfl) _ _ | exact noIds_encL (fun _ => rfl) _ | rfl)) | exact lb_ro (by (first | assumption | exact noIds_tab (fun _ => rfl) _ _ | exact noIds_encL (fun _ => rfl) _ | rfl)) | exact lb_none | exact lb_cells (by ((repeat refine lws_cons (by (first | exact lw_any | exact lw_int | exact lw_bool | exact lw_ptr rfl | exact lw_slo rfl | exact lw_nilp | exact lw_nils | exact lw_str | exact lw_slo_nils | exact lw_slo_sle | exact lw_sl rfl | exact lw_unb | exact lw_gptr | exact lw_noid rfl | exact lw_cap rfl (Nat.le_refl _) | exact lw_cap rfl (by omega) | assumption)) ?_); exact lws_nil)) (by simp) | exact lb_iter | exact lb_cap (Nat.le_refl _) (Nat.le_refl _) rfl rfl | exact lb_capn (by assumption) (by (first | assumption | exact noIds_tab (fun _ => rfl) _ _ | exact noIds_encL (fun _ => rfl) _ | rfl)) | assumption)⟩, ⟨there hfr hc1, _, hc1, by (first | exact lb_dead | exact lb_same (by (first | assumption | exact noIds_tab (fun _ => rfl) _ _ | exact noIds_encL (fun _ => rfl) _ | rfl)) | exact lb_ro (by (first | assumption | exact noIds_tab (fun _ => rfl) _ _ | exact noIds_encL (fun _ => rfl) _ | rfl)) | exact lb_none | exact lb_cells (by ((repeat refine lws_cons (by (first | exact lw_any | exact lw_int | exact lw_bool | exact lw_ptr rfl | exact lw_slo rfl | exact lw_nilp | exact lw_nils | exact lw_str | exact lw_slo_nils | exact lw_slo_sle | exact lw_sl rfl | exact lw_unb | exact lw_gptr | exact lw_noid rfl | exact lw_cap rfl (Nat.le_refl _) | exact lw_cap rfl (by omega) | assumption)) ?_); exact lws_nil)) (by simp) | exact lb_iter | exact lb_cap (Nat.le_refl _) (Nat.le_refl _) rfl rfl | exact lb_capn (by assumption) (by (first | assumption | exact noIds_tab (fun _ => rfl) _ _ | exact noIds_encL (fun _ => rfl) _ | rfl)) | assumption), fun κ hκ => by (first | exact lb_dead | exact lb_same (by (first | assumption | exact noIds_tab (fun _ => rfl) _ _ | exact noIds_encL (fun _ => rfl) _ | rfl)) | exact lb_ro (by (first | assumption | exact noIds_tab (fun _ => rfl) _ _ | exact noIds_encL (fun _ => rfl) _ | rfl)) | exact lb_none | exact lb_cells (by ((repeat refine lws_cons (by (first | exact lw_any | exact lw_int | exact lw_bool | exact lw_ptr rfl | exact lw_slo rfl | exact lw_nilp | exact lw_nils | exact lw_str | exact lw_slo_nils | exact lw_slo_sle | exact lw_sl rfl | exact lw_unb | exact lw_gptr | exact lw_noid rfl | exact lw_cap rfl (Nat.le_refl _) | exact lw_cap rfl (by omega) | assumption)) ?_); exact lws_nil)) (by simp) | exact lb_iter | exact lb_cap (Nat.le_refl _) (Nat.le_refl _) rfl rfl | exact lb_capn (by assumption) (by (first | assumption | exact noIds_tab (fun _ => rfl) _ _ | exact noIds_encL (fun _ => rfl) _ | rfl)) | assumption)⟩, trivial⟩ (by ((repeat refine lws_cons (by (first | exact lw_any | exact lw_int | exact lw_bool | exact lw_ptr rfl | exact lw_slo rfl | exact lw_nilp | exact lw_nils | exact lw_str | exact lw_slo_nils | exact lw_slo_sle | exact lw_sl rfl | exact lw_unb | exact lw_gptr | exact lw_noid rfl | exact lw_cap rfl (Nat.le_refl _) | exact lw_cap rfl (by omega) | assumption)) ?_); exact lws_nil)) rfl ?_
        rw [hgl]
        exact sameL_ok xs ys h1 h2
    · cases hg
  · cases hg

/-! same -/
def cxs : Cx := cxl [(56, cloneG 1), (57, cloneG 3), (39, sameIu64G), (40, sameLG)]
abbrev qH (sa sb sc sd se N C wi : Int) (nw nl ns : Nat) (ws ls ss : List LV) : List LB := [.cells [.int .i64 sa, .int .i64 sb, .int .i64 sc, .int .i64 sd, .int .u64 se, .ptr 1 0, .ptr 3 0, .ptr 5 0, .ptr 6 0, .int .i64 C] none, .cells [.slo 2 0 nw 0] none, .cells ws (some 1), .cells [.int .i64 wi, .slo 4 0 nl 0] none, .cells ls (some 3), .cells [.int .u64 N] none, .cells [.slo 7 0 ns 0] none, .cells ss (some 1), .cells [.int .i64 sa, .int .i64 sb, .int .i64 sc, .int .i64 sd, .int .u64 se, .slo 9 0 nw 0, .slo 10 0 nl 0, .int .u64 N, .slo 11 0 ns 0, .int .i64 C] none, .cells ws (some 1), .cells ls (some 3), .cells ss (some 1)]
theorem cxs_ok : CtrOk Go.Proofs.Try.prog (ctrOf cxs) := cxl_ok ⟨cloneU_ok, cloneL_ok, sameIu64G_ok, sameLG_ok, trivial⟩
theorem same_x (sa sb sc sd se N C wi : Int) (nw nl ns : Nat) (ws ls ss : List LV) (K : Fk) : (xfun Go.Proofs.Try.prog cxs 40 19 [.ptr 0 0, .ptr 8 0] (mkS (qH sa sb sc sd se N C wi nw nl ns ws ls ss)) (vF K)) = (
  bif xle nw 1000000 then
  bif xeq (xln ws) (xmul nw 1) then
  bif xnoid ws then
  bif okIu64 ws nw then
  bif okIu64 ws nw then
  bif sameIu64 nw nw ws ws then (
   bif xle nl 1000000 then
   bif xeq (xln ls) (xmul nl 3) then
   bif xnoid ls then
   bif okL ls nl then
   bif okL ls nl then
   bif sameL nl nl ls ls then (
    bif xcm .eql N N then (
     bif xle ns 1000000 then
     bif xeq (xln ss) (xmul ns 1) then
     bif xnoid ss then
     bif okIu64 ss ns then
     bif okIu64 ss ns then
     bif sameIu64 ns ns ss ss then (
      bif xcm .eql C C then (
       bif xeq nw nw then
       bif xeq nw nw then
       bif xeq nl nl then
       bif xeq nl nl then
       bif xcm .eql N N then
       bif xcm .eql N N then
       bif xeq ns ns then
       bif xeq ns ns then
       bif xcm .eql C C then
       bif xcm .eql C C then
       bif xcm .eql sa sa then
       bif xcm .eql sb sb then
       bif xcm .eql sc sc then
       bif xcm .eql sd sd then
       bif xcm .eql se se then
       bif xcm .eql sa sa then
       bif xcm .eql sb sb then
       bif xcm .eql sc sc then
       bif xcm .eql sd sd then
       bif xcm .eql se se then
       K (.bool (xand (xcm .eql sa sa) (xand (xcm .eql sb sb) (xand (xcm .eql sc sc) (xand (xcm .eql sd sd) (xand (xcm .eql se se) true)))))) [some (.cells [.int .i64 sa, .int .i64 sb, .int .i64 sc, .int .i64 sd, .int .u64 se, .ptr 1 0, .ptr 3 0, .ptr 5 0, .ptr 6 0, .int .i64 C] none), some (.cells [.slo 2 0 nw 0] none), some (.cells ws (some 1)), some (.cells [.int .i64 wi, .slo 4 0 nl 0] none), some (.cells ls (some 3)), some (.cells [.int .u64 N] none), some (.cells [.slo 7 0 ns 0] none), some (.cells ss (some 1)), some (.cells [.int .i64 sa, .int .i64 sb, .int .i64 sc, .int .i64 sd, .int .u64 se, .slo 9 0 nw 0, .slo 10 0 nl 0, .int .u64 N, .slo 11 0 ns 0, .int .i64 C] none), some (.cells ws (some 1)), some (.cells ls (some 3)), some (.cells ss (some 1)), some (.cells ws (some 1)), some (.cells ls (some 3)), some (.cells ss (some 1)), some (.cells [.int .i64 sa, .int .i64 sb, .int .i64 sc, .int .i64 sd, .int .u64 se] none)] []
       else False
       else False
       else False
       else False
       else False
       else False
       else False
       else False
       else False
       else False
       else False
       else False
       else False
       else False
       else False
       else False
       else False
       else False
       else False
       else False)
      else (
       bif xeq nw nw then
       bif xeq nw nw then
       bif xeq nl nl then
       bif xeq nl nl then
       bif xcm .eql N N then
       bif xcm .eql N N then
       bif xeq ns ns then
       bif xeq ns ns then
       bif xcm .eql C C then
       bif xcm .eql C C then
       K (.bool false) [some (.cells [.int .i64 sa, .int .i64 sb, .int .i64 sc, .int .i64 sd, .int .u64 se, .ptr 1 0, .ptr 3 0, .ptr 5 0, .ptr 6 0, .int .i64 C] none), some (.cells [.slo 2 0 nw 0] none), some (.cells ws (some 1)), some (.cells [.int .i64 wi, .slo 4 0 nl 0] none), some (.cells ls (some 3)), some (.cells [.int .u64 N] none), some (.cells [.slo 7 0 ns 0] none), some (.cells ss (some 1)), some (.cells [.int .i64 sa, .int .i64 sb, .int .i64 sc, .int .i64 sd, .int .u64 se, .slo 9 0 nw 0, .slo 10 0 nl 0, .int .u64 N, .slo 11 0 ns 0, .int .i64 C] none), some (.cells ws (some 1)), some (.cells ls (some 3)), some (.cells ss (some 1)), some (.cells ws (some 1)), some (.cells ls (some 3)), some (.cells ss (some 1))] []
       else False
       else False
       else False
       else False
       else False
       else False
       else False
       else False
       else False
       else False))
     else (
      bif xeq nw nw then
      bif xeq nw nw then
      bif xeq nl nl then
      bif xeq nl nl then
      bif xcm .eql N N then
      bif xcm .eql N N then
      bif xeq ns ns then
      bif xeq ns ns then
      K (.bool false) [some (.cells [.int .i64 sa, .int .i64 sb, .int .i64 sc, .int .i64 sd, .int .u64 se, .ptr 1 0, .ptr 3 0, .ptr 5 0, .ptr 6 0, .int .i64 C] none), some (.cells [.slo 2 0 nw 0] none), some (.cells ws (some 1)), some (.cells [.int .i64 wi, .slo 4 0 nl 0] none), some (.cells ls (some 3)), some (.cells [.int .u64 N] none), some (.cells [.slo 7 0 ns 0] none), some (.cells ss (some 1)), some (.cells [.int .i64 sa, .int .i64 sb, .int .i64 sc, .int .i64 sd, .int .u64 se, .slo 9 0 nw 0, .slo 10 0 nl 0, .int .u64 N, .slo 11 0 ns 0, .int .i64 C] none), some (.cells ws (some 1)), some (.cells ls (some 3)), some (.cells ss (some 1)), some (.cells ws (some 1)), some (.cells ls (some 3)), some (.cells ss (some 1))] []
      else False
      else False
      else False
      else False
      else False
      else False
      else False
      else False)
     else False
     else False
     else False
     else False
     else False)
    else (
     bif xeq nw nw then
     bif xeq nw nw then
     bif xeq nl nl then
     bif xeq nl nl then
     bif xcm .eql N N then
     bif xcm .eql N N then
     K (.bool false) [some (.cells [.int .i64 sa, .int .i64 sb, .int .i64 sc, .int .i64 sd, .int .u64 se, .ptr 1 0, .ptr 3 0, .ptr 5 0, .ptr 6 0, .int .i64 C] none), some (.cells [.slo 2 0 nw 0] none), some (.cells ws (some 1)), some (.cells [.int .i64 wi, .slo 4 0 nl 0] none), some (.cells ls (some 3)), some (.cells [.int .u64 N] none), some (.cells [.slo 7 0 ns 0] none), some (.cells ss (some 1)), some (.cells [.int .i64 sa, .int .i64 sb, .int .i64 sc, .int .i64 sd, .int .u64 se, .slo 9 0 nw 0, .slo 10 0 nl 0, .int .u64 N, .slo 11 0 ns 0, .int .i64 C] none), some (.cells ws (some 1)), some (.cells ls (some 3)), some (.cells ss (some 1)), some (.cells ws (some 1)), some (.cells ls (some 3))] []
     else False
     else False
     else False
     else False
     else False
     else False))
   else (
    bif xeq nw nw then
    bif xeq nw nw then
    bif xeq nl nl then
    bif xeq nl nl then
    K (.bool false) [some (.cells [.int .i64 sa, .int .i64 sb, .int .i64 sc, .int .i64 sd, .int .u64 se, .ptr 1 0, .ptr 3 0, .ptr 5 0, .ptr 6 0, .int .i64 C] none), some (.cells [.slo 2 0 nw 0] none), some (.cells ws (some 1)), some (.cells [.int .i64 wi, .slo 4 0 nl 0] none), some (.cells ls (some 3)), some (.cells [.int .u64 N] none), some (.cells [.slo 7 0 ns 0] none), some (.cells ss (some 1)), some (.cells [.int .i64 sa, .int .i64 sb, .int .i64 sc, .int .i64 sd, .int .u64 se, .slo 9 0 nw 0, .slo 10 0 nl 0, .int .u64 N, .slo 11 0 ns 0, .int .i64 C] none), some (.cells ws (some 1)), some (.cells ls (some 3)), some (.cells ss (some 1)), some (.cells ws (some 1)), some (.cells ls (some 3))] []
    else False
    else False
    else False
    else False)
   else False
   else False
   else False
   else False
   else False)
  else (
   bif xeq nw nw then
   bif xeq nw nw then
   K (.bool false) [some (.cells [.int .i64 sa, .int .i64 sb, .int .i64 sc, .int .i64 sd, .int .u64 se, .ptr 1 0, .ptr 3 0, .ptr 5 0, .ptr 6 0, .int .i64 C] none), some (.cells [.slo 2 0 nw 0] none), some (.cells ws (some 1)), some (.cells [.int .i64 wi, .slo 4 0 nl 0] none), some (.cells ls (some 3)), some (.cells [.int .u64 N] none), some (.cells [.slo 7 0 ns 0] none), some (.cells ss (some 1)), some (.cells [.int .i64 sa, .int .i64 sb, .int .i64 sc, .int .i64 sd, .int .u64 se, .slo 9 0 nw 0, .slo 10 0 nl 0, .int .u64 N, .slo 11 0 ns 0, .int .i64 C] none), some (.cells ws (some 1)), some (.cells ls (some 3)), some (.cells ss (some 1)), some (.cells ws (some 1))] []
   else False
   else False)
  else False
  else False
  else False
  else False
  else False) := by kernel_rfl
theorem same_ok (sa sb sc sd se wi : Int) (m : MS) (hm : m.ok) : SFun Go.Proofs.Try.prog 19 [.ptr 0 0, .ptr 8 0] (mkS (qH sa sb sc sd se m.N m.C wi m.W.length m.L.length m.S.length (encL (cI .u64) m.W) (encL cL m.L) (encL (cI .u64) m.S)))
    fun l s => l = .bool true ∧ s = mkS (qH sa sb sc sd se m.N m.C wi m.W.length m.L.length m.S.length (encL (cI .u64) m.W) (encL cL m.L) (encL (cI .u64) m.S)) := by
  refine SFun.mono (SFun.vc (Q := fun l b => l = .bool true ∧ b = qH sa sb sc sd se m.N m.C wi m.W.length m.L.length m.S.length (encL (cI .u64) m.W) (encL cL m.L) (encL (cI .u64) m.S)) cxs_ok (n := 40) 12 rfl ?_) fun l s' ⟨b0, ⟨h1, h2⟩, h3⟩ => ⟨h1, by rw [h3, h2]⟩
  have n1 := noIds_Iu64 m.W
  have n2 := noids_l m.L
  have n3 := noIds_Iu64 m.S
  have b1 := hm.w
  have b2 := hm.l
  have b3 := hm.s
  have o1 := okIu64_enc (xs := m.W) (by omega)
  have o2 := okL_enc (xs := m.L) b2
  have o3 := okIu64_enc (xs := m.S) (by omega)
  rw [same_x]
  simp only [o1, o2, o3, encIu64_len, lk_n, xnoid_Iu64, xnoid_l, sameIu64_self, sameL_self, cond_true, wd_ln, wd_mul, wd_eq, Nat.mul_one, decide_true]
  (repeat (first | (with_reducible refine way_t (by (first | with_reducible rfl | exact t_le (by omega) | exact t_eq (by omega) | exact t_nn (by omega) | exact t_lss (by omega) | exact t_leq (by omega) | exact t_gtr (by omega) | exact t_geq (by omega) | exact t_eql (by omega) | exact t_neq (by omega) | exact t_z (by omega) | exact wd_not_f | assumption)) ?_) | (with_reducible refine way_f (by (first | with_reducible rfl | exact f_le (by omega) | exact f_eq (by omega) | exact f_nn (by omega) | exact f_lss (by omega) | exact f_leq (by omega) | exact f_gtr (by omega) | exact f_geq (by omega) | exact f_eql (by omega) | exact f_neq (by omega) | exact f_z (by omega) | exact wd_not_t | assumption)) ?_)))
  refine ⟨rfl, _, _, [.id 0, .id 1, .id 2, .id 3, .id 4, .id 5, .id 6, .id 7, .id 8, .id 9, .id 10, .id 11], ⟨rfl, rfl⟩, ?_⟩
  simp only [t_eql (rfl : (se : Int) = se), t_eql (rfl : (sa : Int) = sa), t_eql (rfl : (sb : Int) = sb), t_eql (rfl : (sc : Int) = sc), t_eql (rfl : (sd : Int) = sd), wd_and_t]
  (exact ⟨by kernel_rfl, by ((repeat refine okTms_cons (by (first | exact lw_any | exact lw_int | exact lw_bool | exact lw_ptr rfl | exact lw_slo rfl | exact lw_nilp | exact lw_nils | exact lw_str | exact lw_slo_nils | exact lw_slo_sle | exact lw_sl rfl | exact lw_unb | exact lw_gptr | exact lw_noid rfl | exact lw_cap rfl (Nat.le_refl _) | exact lw_cap rfl (by omega) | assumption)) ?_); exact okTms_nil), by ((repeat refine okBlks_cons (by (first | exact lb_dead | exact lb_same (by (first | assumption | exact noIds_tab (fun _ => rfl) _ _ | exact noIds_encL (fun _ => rfl) _ | rfl)) | exact lb_ro (by (first | assumption | exact noIds_tab (fun _ => rfl) _ _ | exact noIds_encL (fun _ => rfl) _ | rfl)) | exact lb_none | exact lb_cells (by ((repeat refine lws_cons (by (first | exact lw_any | exact lw_int | exact lw_bool | exact lw_ptr rfl | exact lw_slo rfl | exact lw_nilp | exact lw_nils | exact lw_str | exact lw_slo_nils | exact lw_slo_sle | exact lw_sl rfl | exact lw_unb | exact lw_gptr | exact lw_noid rfl | exact lw_cap rfl (Nat.le_refl _) | exact lw_cap rfl (by omega) | assumption)) ?_); exact lws_nil)) (by simp) | exact lb_iter | exact lb_cap (Nat.le_refl _) (Nat.le_refl _) rfl rfl | exact lb_capn (by assumption) (by (first | assumption | exact noIds_tab (fun _ => rfl) _ _ | exact noIds_encL (fun _ => rfl) _ | rfl)) | assumption)) ?_); exact okBlks_nil)⟩)
end
end Go.Lev
