/- chapter 25: the memory's Do as a contract -/
import Derived.Test.YtooajpakpmnehaaCW8
import Derived.Test.YtooajpakpmnehaaLc
import Derived.Test.YtooajpakpmnehaaChecked
import Derived.KernelRfl

namespace Go.Lev
open Go.RowKit
set_option linter.unusedVariables false
set_option linter.unusedSimpArgs false
set_option maxRecDepth 100000
noncomputable section
/-! a copy of a row: slices.Clone[[]uint64,uint64] -/
/-! a copy of a row: slices.Clone[[]quietus/api.Lock,quietus/api.Lock] -/
/-! a copy of a row: slices.Clone[[]quietus/api.Seen,quietus/api.Seen] -/
theorem cloneSeen_s (n : Nat) (cs : List LV) (K : Pk) : (xsp Go.Proofs.Try.prog (fun _ => none) 40 8 ((sp Go.Proofs.Try.prog 35).drop 0) (tm0 [.slo 0 0 (n + 1) 0]) (mkS [.cells cs (some 2)]) (vK [0, 2, 4] K)) = (
 bif xle (xadd 0 (xmul (n + 1) 2)) (xln cs) then bif xle (xadd 0 (n + 1)) 1000000 then
 K .ret [.slo 0 0 (n + 1) 0, .slo 2 0 (xadd 0 (n + 1)) 0, .bool false] [some (.cells cs (some 2)), some (.cells [] none), some (.cells (xcat [] (xcut cs 0 (xmul (n + 1) 2))) (some 2))] [] else False else False) := by kernel_rfl
theorem cloneSeen_a (K : Pk) : (xsp Go.Proofs.Try.prog (fun _ => none) 40 8 (seg (sp Go.Proofs.Try.prog 35) 0 2) (tm0 [.slo 0 0 0 0]) (mkS [.cells [] (some 2)]) (vK [0, 2, 4] K)) = (
 K .normal [.slo 0 0 0 0, .nils, .unb] [some (.cells [] (some 2))] []) := by kernel_rfl
theorem cloneSeen_t (K : Pk) : (xcode Go.Proofs.Try.prog (fun _ => none) 40 8 (condT (nthC (sp Go.Proofs.Try.prog 35) 2)) (mkTm 8 [(0, .slo 0 0 0 0), (4, .unb)]) (mkS [.cells [] (some 2)]) (vK [0, 2, 4] K)) = (
 K .ret [.slo 0 0 0 0, .nils, .unb] [some (.cells [] (some 2))] []) := by kernel_rfl
theorem cloneSeen_f (K : Pk) : (xcode Go.Proofs.Try.prog (fun _ => none) 40 8 (condF (nthC (sp Go.Proofs.Try.prog 35) 2)) (mkTm 8 [(0, .slo 0 0 0 0), (4, .unb)]) (mkS [.cells [] (some 2)]) (vK [0, 2, 4] K)) = (
 K .normal [.slo 0 0 0 0, .any, .unb] [some (.cells [] (some 2))] []) := by kernel_rfl
theorem cloneSeen_z (K : Pk) : (xsp Go.Proofs.Try.prog (fun _ => none) 40 8 ((sp Go.Proofs.Try.prog 35).drop 3) (mkTm 8 [(0, .slo 0 0 0 0)]) (mkS [.cells [] (some 2)]) (vK [0, 2, 4] K)) = (
 K .ret [.slo 0 0 0 0, .sl 1 0 0 0, .any] [some (.cells [] (some 2)), some (.cells [] none)] []) := by kernel_rfl
theorem cloneSeen_ok : GOk Go.Proofs.Try.prog 35 (cloneG 2) := by
  refine cloneG_ok fun n cs hn hl hno => ?_
  refine SFun.mono (SFun.pieces (Q := fun l b => l = .slo 1 0 n 0 ∧ b = [.cells cs (some 2), .cells cs (some 2)]) 8 1 [0, 2, 4] [2] (by kernel_rfl) rfl rfl rfl ?_) fun l s' ⟨b0, ⟨h1, h2⟩, h3⟩ => ⟨h1, by rw [h3, h2]⟩
  cases n with
  | zero =>
    have : cs = [] := List.length_eq_zero_iff.1 (by omega)
    subst this
    refine SSp.to noCx_ok (n := 40) (g := []) 2 2 rfl (σ := Unit) (fun _ => [(0, .slo 0 0 0 0), (4, .unb)]) (fun _ => [.cells [] (some 2)]) (mkS_le (Nat.le_refl _)) (by kernel_rfl) ?_ fun _ => ?_
    · rw [cloneSeen_a]; exact ⟨rfl, (), [.id 0], by (refine ⟨by kernel_rfl, ?_, ?_⟩ <;> repeat first | exact okTms_nil | refine okTms_cons ?_ ?_ | exact okBlks_nil | refine okBlks_cons ?_ ?_ | exact lws_nil | refine lws_cons ?_ ?_ | exact lb_dead | exact zy1 | exact zy2 | exact lb_none | refine zy3 ?_ | exact zy4 | exact lw_any | exact lw_int | exact lw_bool | exact zy5 | exact zy6 | exact lw_nils | exact lw_slo_nils | exact zy7 | exact zy8 | exact zy9 | refine lw_tup ?_ | refine lw_agg ?_ | assumption)⟩
    refine SSp.code_to (g := []) 3 rfl (σ := Unit) (fun _ => [(0, .slo 0 0 0 0)]) (fun _ => [.cells [] (some 2)]) (by kernel_rfl) ?_ fun _ => ?_
    · refine SCode.unb noCx_ok (n := 40) (by kernel_rfl) (by kernel_rfl) (mkS_le (Nat.le_refl _)) ?_ ?_
      · rw [cloneSeen_t]; exact ⟨trivial, rfl, _, _, [.id 0, .none], ⟨rfl, rfl⟩, by (refine ⟨by kernel_rfl, ?_, ?_⟩ <;> repeat first | exact okTms_nil | refine okTms_cons ?_ ?_ | exact okBlks_nil | refine okBlks_cons ?_ ?_ | exact lws_nil | refine lws_cons ?_ ?_ | exact lb_dead | exact zy1 | exact zy2 | exact lb_none | refine zy3 ?_ | exact zy4 | exact lw_any | exact lw_int | exact lw_bool | exact zy5 | exact zy6 | exact lw_nils | exact lw_slo_nils | exact zy7 | exact zy8 | exact zy9 | refine lw_tup ?_ | refine lw_agg ?_ | assumption)⟩
      · rw [cloneSeen_f]; exact ⟨rfl, (), [.id 0], by (refine ⟨by kernel_rfl, ?_, ?_⟩ <;> repeat first | exact okTms_nil | refine okTms_cons ?_ ?_ | exact okBlks_nil | refine okBlks_cons ?_ ?_ | exact lws_nil | refine lws_cons ?_ ?_ | exact lb_dead | exact zy1 | exact zy2 | exact lb_none | refine zy3 ?_ | exact zy4 | exact lw_any | exact lw_int | exact lw_bool | exact zy5 | exact zy6 | exact lw_nils | exact lw_slo_nils | exact zy7 | exact zy8 | exact zy9 | refine lw_tup ?_ | refine lw_agg ?_ | assumption)⟩
    refine SSp.last noCx_ok (n := 40) (mkS_le (Nat.le_refl _)) ?_
    rw [cloneSeen_z]
    exact ⟨trivial, rfl, _, _, [.id 0, .cap 1 0 0], ⟨rfl, rfl⟩, by (refine ⟨by kernel_rfl, ?_, ?_⟩ <;> repeat first | exact okTms_nil | refine okTms_cons ?_ ?_ | exact okBlks_nil | refine okBlks_cons ?_ ?_ | exact lws_nil | refine lws_cons ?_ ?_ | exact lb_dead | exact zy1 | exact zy2 | exact lb_none | refine zy3 ?_ | exact zy4 | exact lw_any | exact lw_int | exact lw_bool | exact zy5 | exact zy6 | exact lw_nils | exact lw_slo_nils | exact zy7 | exact zy8 | exact zy9 | refine lw_tup ?_ | refine lw_agg ?_ | assumption)⟩
  | succ n =>
    refine SSp.last noCx_ok (n := 40) (mkS_le (Nat.le_refl _)) ?_
    rw [cloneSeen_s]
    have e : xcut cs 0 ((n + 1) * 2) = cs := xcut_all (by omega)
    (try simp only [Nat.mul_one] at e)
    simp only [wd_nat, wd_asV, wd_isV, wd_ix, wd_add, wd_mul, wd_ln, Nat.zero_add, Nat.mul_one, wd_isI, wd_asI, wd_isB, wd_asB, wd_nn, cI_tlen, cB_tlen, cII_tlen, decide_true, cond_true, wd_not_t, wd_not_f, wd_and_t, wd_and_f, e]
    (repeat (with_reducible refine must (by (first | with_reducible rfl | exact t_le (by omega) | exact t_eq (by omega) | exact t_nn (by omega) | exact t_lss (by omega) | exact t_leq (by omega) | exact t_gtr (by omega) | exact t_geq (by omega) | exact t_eql (by omega) | exact t_neq (by omega) | exact t_z (by omega) | exact wd_not_f | assumption)) ?_))
    exact ⟨trivial, rfl, _, _, [.id 0, .id 2], ⟨rfl, rfl⟩, by (refine ⟨by kernel_rfl, ?_, ?_⟩ <;> repeat first | exact okTms_nil | refine okTms_cons ?_ ?_ | exact okBlks_nil | refine okBlks_cons ?_ ?_ | exact lws_nil | refine lws_cons ?_ ?_ | exact lb_dead | exact zy1 | exact zy2 | exact lb_none | refine zy3 ?_ | exact zy4 | exact lw_any | exact lw_int | exact lw_bool | exact zy5 | exact zy6 | exact lw_nils | exact lw_slo_nils | exact zy7 | exact zy8 | exact zy9 | refine lw_tup ?_ | refine lw_agg ?_ | assumption)⟩

/-! a copy of a row: slices.Clone[[]quietus/api.Cell,quietus/api.Cell] -/
theorem cloneCell_s (n : Nat) (cs : List LV) (K : Pk) : (xsp Go.Proofs.Try.prog (fun _ => none) 40 8 ((sp Go.Proofs.Try.prog 36).drop 0) (tm0 [.slo 0 0 (n + 1) 0]) (mkS [.cells cs (some 2)]) (vK [0, 2, 4] K)) = (
 bif xle (xadd 0 (xmul (n + 1) 2)) (xln cs) then bif xle (xadd 0 (n + 1)) 1000000 then
 K .ret [.slo 0 0 (n + 1) 0, .slo 2 0 (xadd 0 (n + 1)) 0, .bool false] [some (.cells cs (some 2)), some (.cells [] none), some (.cells (xcat [] (xcut cs 0 (xmul (n + 1) 2))) (some 2))] [] else False else False) := by kernel_rfl
theorem cloneCell_a (K : Pk) : (xsp Go.Proofs.Try.prog (fun _ => none) 40 8 (seg (sp Go.Proofs.Try.prog 36) 0 2) (tm0 [.slo 0 0 0 0]) (mkS [.cells [] (some 2)]) (vK [0, 2, 4] K)) = (
 K .normal [.slo 0 0 0 0, .nils, .unb] [some (.cells [] (some 2))] []) := by kernel_rfl
theorem cloneCell_t (K : Pk) : (xcode Go.Proofs.Try.prog (fun _ => none) 40 8 (condT (nthC (sp Go.Proofs.Try.prog 36) 2)) (mkTm 8 [(0, .slo 0 0 0 0), (4, .unb)]) (mkS [.cells [] (some 2)]) (vK [0, 2, 4] K)) = (
 K .ret [.slo 0 0 0 0, .nils, .unb] [some (.cells [] (some 2))] []) := by kernel_rfl
theorem cloneCell_f (K : Pk) : (xcode Go.Proofs.Try.prog (fun _ => none) 40 8 (condF (nthC (sp Go.Proofs.Try.prog 36) 2)) (mkTm 8 [(0, .slo 0 0 0 0), (4, .unb)]) (mkS [.cells [] (some 2)]) (vK [0, 2, 4] K)) = (
 K .normal [.slo 0 0 0 0, .any, .unb] [some (.cells [] (some 2))] []) := by kernel_rfl
theorem cloneCell_z (K : Pk) : (xsp Go.Proofs.Try.prog (fun _ => none) 40 8 ((sp Go.Proofs.Try.prog 36).drop 3) (mkTm 8 [(0, .slo 0 0 0 0)]) (mkS [.cells [] (some 2)]) (vK [0, 2, 4] K)) = (
 K .ret [.slo 0 0 0 0, .sl 1 0 0 0, .any] [some (.cells [] (some 2)), some (.cells [] none)] []) := by kernel_rfl
theorem cloneCell_ok : GOk Go.Proofs.Try.prog 36 (cloneG 2) := by
  refine cloneG_ok fun n cs hn hl hno => ?_
  refine SFun.mono (SFun.pieces (Q := fun l b => l = .slo 1 0 n 0 ∧ b = [.cells cs (some 2), .cells cs (some 2)]) 8 1 [0, 2, 4] [2] (by kernel_rfl) rfl rfl rfl ?_) fun l s' ⟨b0, ⟨h1, h2⟩, h3⟩ => ⟨h1, by rw [h3, h2]⟩
  cases n with
  | zero =>
    have : cs = [] := List.length_eq_zero_iff.1 (by omega)
    subst this
    refine SSp.to noCx_ok (n := 40) (g := []) 2 2 rfl (σ := Unit) (fun _ => [(0, .slo 0 0 0 0), (4, .unb)]) (fun _ => [.cells [] (some 2)]) (mkS_le (Nat.le_refl _)) (by kernel_rfl) ?_ fun _ => ?_
    · rw [cloneCell_a]; exact ⟨rfl, (), [.id 0], by (refine ⟨by kernel_rfl, ?_, ?_⟩ <;> repeat first | exact okTms_nil | refine okTms_cons ?_ ?_ | exact okBlks_nil | refine okBlks_cons ?_ ?_ | exact lws_nil | refine lws_cons ?_ ?_ | exact lb_dead | exact zy1 | exact zy2 | exact lb_none | refine zy3 ?_ | exact zy4 | exact lw_any | exact lw_int | exact lw_bool | exact zy5 | exact zy6 | exact lw_nils | exact lw_slo_nils | exact zy7 | exact zy8 | exact zy9 | refine lw_tup ?_ | refine lw_agg ?_ | assumption)⟩
    refine SSp.code_to (g := []) 3 rfl (σ := Unit) (fun _ => [(0, .slo 0 0 0 0)]) (fun _ => [.cells [] (some 2)]) (by kernel_rfl) ?_ fun _ => ?_
    · refine SCode.unb noCx_ok (n := 40) (by kernel_rfl) (by kernel_rfl) (mkS_le (Nat.le_refl _)) ?_ ?_
      · rw [cloneCell_t]; exact ⟨trivial, rfl, _, _, [.id 0, .none], ⟨rfl, rfl⟩, by (refine ⟨by kernel_rfl, ?_, ?_⟩ <;> repeat first | exact okTms_nil | refine okTms_cons ?_ ?_ | exact okBlks_nil | refine okBlks_cons ?_ ?_ | exact lws_nil | refine lws_cons ?_ ?_ | exact lb_dead | exact zy1 | exact zy2 | exact lb_none | refine zy3 ?_ | exact zy4 | exact lw_any | exact lw_int | exact lw_bool | exact zy5 | exact zy6 | exact lw_nils | exact lw_slo_nils | exact zy7 | exact zy8 | exact zy9 | refine lw_tup ?_ | refine lw_agg ?_ | assumption)⟩
      · rw [cloneCell_f]; exact ⟨rfl, (), [.id 0], by (refine ⟨by kernel_rfl, ?_, ?_⟩ <;> repeat first | exact okTms_nil | refine okTms_cons ?_ ?_ | exact okBlks_nil | refine okBlks_cons ?_ ?_ | exact lws_nil | refine lws_cons ?_ ?_ | exact lb_dead | exact zy1 | exact zy2 | exact lb_none | refine zy3 ?_ | exact zy4 | exact lw_any | exact lw_int | exact lw_bool | exact zy5 | exact zy6 | exact lw_nils | exact lw_slo_nils | exact zy7 | exact zy8 | exact zy9 | refine lw_tup ?_ | refine lw_agg ?_ | assumption)⟩
    refine SSp.last noCx_ok (n := 40) (mkS_le (Nat.le_refl _)) ?_
    rw [cloneCell_z]
    exact ⟨trivial, rfl, _, _, [.id 0, .cap 1 0 0], ⟨rfl, rfl⟩, by (refine ⟨by kernel_rfl, ?_, ?_⟩ <;> repeat first | exact okTms_nil | refine okTms_cons ?_ ?_ | exact okBlks_nil | refine okBlks_cons ?_ ?_ | exact lws_nil | refine lws_cons ?_ ?_ | exact lb_dead | exact zy1 | exact zy2 | exact lb_none | refine zy3 ?_ | exact zy4 | exact lw_any | exact lw_int | exact lw_bool | exact zy5 | exact zy6 | exact lw_nils | exact lw_slo_nils | exact zy7 | exact zy8 | exact zy9 | refine lw_tup ?_ | refine lw_agg ?_ | assumption)⟩
  | succ n =>
    refine SSp.last noCx_ok (n := 40) (mkS_le (Nat.le_refl _)) ?_
    rw [cloneCell_s]
    have e : xcut cs 0 ((n + 1) * 2) = cs := xcut_all (by omega)
    (try simp only [Nat.mul_one] at e)
    simp only [wd_nat, wd_asV, wd_isV, wd_ix, wd_add, wd_mul, wd_ln, Nat.zero_add, Nat.mul_one, wd_isI, wd_asI, wd_isB, wd_asB, wd_nn, cI_tlen, cB_tlen, cII_tlen, decide_true, cond_true, wd_not_t, wd_not_f, wd_and_t, wd_and_f, e]
    (repeat (with_reducible refine must (by (first | with_reducible rfl | exact t_le (by omega) | exact t_eq (by omega) | exact t_nn (by omega) | exact t_lss (by omega) | exact t_leq (by omega) | exact t_gtr (by omega) | exact t_geq (by omega) | exact t_eql (by omega) | exact t_neq (by omega) | exact t_z (by omega) | exact wd_not_f | assumption)) ?_))
    exact ⟨trivial, rfl, _, _, [.id 0, .id 2], ⟨rfl, rfl⟩, by (refine ⟨by kernel_rfl, ?_, ?_⟩ <;> repeat first | exact okTms_nil | refine okTms_cons ?_ ?_ | exact okBlks_nil | refine okBlks_cons ?_ ?_ | exact lws_nil | refine lws_cons ?_ ?_ | exact lb_dead | exact zy1 | exact zy2 | exact lb_none | refine zy3 ?_ | exact zy4 | exact lw_any | exact lw_int | exact lw_bool | exact zy5 | exact zy6 | exact lw_nils | exact lw_slo_nils | exact zy7 | exact zy8 | exact zy9 | refine lw_tup ?_ | refine lw_agg ?_ | assumption)⟩

end
end Go.Lev
