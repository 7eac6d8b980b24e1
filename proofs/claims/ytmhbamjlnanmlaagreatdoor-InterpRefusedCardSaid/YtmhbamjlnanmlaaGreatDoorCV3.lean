/- InterpRefused (P21.1): for any program and any fuel the law returns true; what was there stays as it was. Condition: the listed package-level variables hold what the program's text lays. -/
import Derived.Test.YtmhbamjlnanmlaaGreatDoorCV2
import Derived.Test.YtmhbamjlnanmlaaGreatDoorLc
import Derived.Test.YtmhbamjlnanmlaaGreatDoorChecked
import Derived.KernelRfl

import Derived.Test.YtmhbamjlnanmlaaGreatDoorRows
namespace Go.Lev
open Go.RowKit
set_option linter.unusedVariables false
set_option linter.unusedSimpArgs false
set_option maxRecDepth 100000
noncomputable section
theorem noneG_ok {f : Nat} : GOk Go.Proofs.Tryz.prog f noneG := fun args s bs l s' hg => by cases hg
theorem runs21 : isTrue (lrun Go.Proofs.Tryz.prog 8000 4 gtab) = true := by kernel_rfl
theorem runCk_ok : GOk Go.Proofs.Tryz.prog 4 runCk := by
  intro args s bs l s' hg hb hfr
  unfold runCk at hg
  split at hg
  · rename_i g0 F0 hgl
    cases hc : (Nat.beq g0 0 && eqbs F0 formsL) with
    | false => rw [hc] at hg; cases hg
    | true =>
      rw [hc] at hg
      simp only [cond_true, Option.some.injEq, Prod.mk.injEq] at hg
      obtain ⟨rfl, rfl, rfl⟩ := hg
      rw [Bool.and_eq_true] at hc
      have e : s.g = gtab := by rw [hgl, Nat.eq_of_beq_eq_true hc.1, eqbs_eq hc.2]; rfl
      exact SFun.closed hfr (by rw [e]; exact runs21)
  · cases hg
theorem cxIB_ok : CtrOk Go.Proofs.Tryz.prog (ctrOf cxIB) := cxl_ok ⟨runCk_ok, lookBG_ok, noneG_ok, trivial⟩
theorem cxIG_ok : CtrOk Go.Proofs.Tryz.prog (ctrOf cxIG) := cxl_ok ⟨runCk_ok, lookGG_ok, wrapG_ok clnG_ok, trivial⟩
theorem chk_n {L : List InsR} (he : (chk L).2.1 = 0) : 1 ≤ L.length ∧ L.length ≤ 40 := by
  by_cases h40 : L.length = 0 ∨ 40 < L.length
  · rw [(chk_form h40).2] at he; exact absurd he (by decide)
  · omega
theorem refused_fun (L : List InsR) (fuel : Int) : SFun Go.Proofs.Tryz.prog 3 [.slo 0 0 L.length 0, .int .i64 fuel] (mkS [.ro (encL insE L)] gtab) fun l _ => l = .bool true := by
  have no : noIds (encL insE L) = true := ins_noids L
  by_cases he : (chk L).2.1 = 0
  · have hg : chG L.length (encL insE L) = true := chG_iff.2 ⟨L, rfl, rfl, he⟩
    have hn := chk_n he
    have o1 : okIns L.length (encL insE L) = true := okIns_iff.2 ⟨L, rfl, rfl, hn.1, by omega⟩
    refine SFun.mono (SFun.vc (Q := fun l _ => l = .bool true) cxIG_ok (n := 100) 1 rfl ?_) fun l s' ⟨b0, h1, h3⟩ => h1
    rw [ir_g]
    (repeat (first | (with_reducible refine way_t (by (first | with_reducible rfl | exact t_le (by omega) | exact t_eq (by omega) | exact t_nn (by omega) | exact t_lss (by omega) | exact t_leq (by omega) | exact t_gtr (by omega) | exact t_geq (by omega) | exact t_eql (by omega) | exact t_neq (by omega) | exact t_z (by omega) | exact wd_not_f | assumption)) ?_) | (with_reducible refine way_f (by (first | with_reducible rfl | exact f_le (by omega) | exact f_eq (by omega) | exact f_nn (by omega) | exact f_lss (by omega) | exact f_leq (by omega) | exact f_gtr (by omega) | exact f_geq (by omega) | exact f_eql (by omega) | exact f_neq (by omega) | exact f_z (by omega) | exact wd_not_t | assumption)) ?_)))
    exact ⟨rfl, .bool true, [.ro _], [.id 0], rfl, by (refine ⟨by kernel_rfl, ?_, ?_⟩ <;> repeat (first | exact okTms_nil | refine okTms_cons ?_ ?_ | exact okBlks_nil | refine okBlks_cons ?_ ?_ | exact lws_nil | refine lws_cons ?_ ?_ | exact lb_dead | exact lb_same (by (first | assumption | exact noIds_encL (fun _ => rfl) _ | exact noIds_tab (fun _ => rfl) _ _ | rfl)) | exact lb_ro (by (first | assumption | exact noIds_encL (fun _ => rfl) _ | exact noIds_tab (fun _ => rfl) _ _ | rfl)) | exact lb_none | refine lb_cells ?_ (by simp) | exact lb_cap (Nat.le_refl _) (Nat.le_refl _) rfl rfl | exact lb_capn (by assumption) (by (first | assumption | exact noIds_encL (fun _ => rfl) _ | exact noIds_tab (fun _ => rfl) _ _ | rfl)) | exact lw_any | exact lw_int | exact lw_bool | exact lw_ptr rfl | exact lw_slo rfl | exact lw_nils | exact lw_slo_nils | exact lw_sl rfl | exact lw_noid rfl | exact lw_cap rfl (Nat.le_refl _) | refine lw_tup ?_ | refine lw_agg ?_ | assumption))⟩
  · have hb : chB L.length (encL insE L) = true := chB_iff.2 ⟨L, rfl, rfl, he⟩
    have hne : chE (encL insE L) ≠ 0 := chE_ne hb
    refine SFun.mono (SFun.vc (Q := fun l _ => l = .bool true) cxIB_ok (n := 100) 1 rfl ?_) fun l s' ⟨b0, h1, h3⟩ => h1
    rw [ir_b]
    by_cases hn : L.length ≤ 100
    · (repeat (first | (with_reducible refine way_t (by (first | with_reducible rfl | exact t_le (by omega) | exact t_eq (by omega) | exact t_nn (by omega) | exact t_lss (by omega) | exact t_leq (by omega) | exact t_gtr (by omega) | exact t_geq (by omega) | exact t_eql (by omega) | exact t_neq (by omega) | exact t_z (by omega) | exact wd_not_f | assumption)) ?_) | (with_reducible refine way_f (by (first | with_reducible rfl | exact f_le (by omega) | exact f_eq (by omega) | exact f_nn (by omega) | exact f_lss (by omega) | exact f_leq (by omega) | exact f_gtr (by omega) | exact f_geq (by omega) | exact f_eql (by omega) | exact f_neq (by omega) | exact f_z (by omega) | exact wd_not_t | assumption)) ?_)))
      exact ⟨rfl, .bool true, [.ro _], [.id 0], rfl, by (refine ⟨by kernel_rfl, ?_, ?_⟩ <;> repeat (first | exact okTms_nil | refine okTms_cons ?_ ?_ | exact okBlks_nil | refine okBlks_cons ?_ ?_ | exact lws_nil | refine lws_cons ?_ ?_ | exact lb_dead | exact lb_same (by (first | assumption | exact noIds_encL (fun _ => rfl) _ | exact noIds_tab (fun _ => rfl) _ _ | rfl)) | exact lb_ro (by (first | assumption | exact noIds_encL (fun _ => rfl) _ | exact noIds_tab (fun _ => rfl) _ _ | rfl)) | exact lb_none | refine lb_cells ?_ (by simp) | exact lb_cap (Nat.le_refl _) (Nat.le_refl _) rfl rfl | exact lb_capn (by assumption) (by (first | assumption | exact noIds_encL (fun _ => rfl) _ | exact noIds_tab (fun _ => rfl) _ _ | rfl)) | exact lw_any | exact lw_int | exact lw_bool | exact lw_ptr rfl | exact lw_slo rfl | exact lw_nils | exact lw_slo_nils | exact lw_sl rfl | exact lw_noid rfl | exact lw_cap rfl (Nat.le_refl _) | refine lw_tup ?_ | refine lw_agg ?_ | assumption))⟩
    · (repeat (first | (with_reducible refine way_t (by (first | with_reducible rfl | exact t_le (by omega) | exact t_eq (by omega) | exact t_nn (by omega) | exact t_lss (by omega) | exact t_leq (by omega) | exact t_gtr (by omega) | exact t_geq (by omega) | exact t_eql (by omega) | exact t_neq (by omega) | exact t_z (by omega) | exact wd_not_f | assumption)) ?_) | (with_reducible refine way_f (by (first | with_reducible rfl | exact f_le (by omega) | exact f_eq (by omega) | exact f_nn (by omega) | exact f_lss (by omega) | exact f_leq (by omega) | exact f_gtr (by omega) | exact f_geq (by omega) | exact f_eql (by omega) | exact f_neq (by omega) | exact f_z (by omega) | exact wd_not_t | assumption)) ?_)))
      exact ⟨rfl, .bool true, [.ro _], [.id 0], rfl, by (refine ⟨by kernel_rfl, ?_, ?_⟩ <;> repeat (first | exact okTms_nil | refine okTms_cons ?_ ?_ | exact okBlks_nil | refine okBlks_cons ?_ ?_ | exact lws_nil | refine lws_cons ?_ ?_ | exact lb_dead | exact lb_same (by (first | assumption | exact noIds_encL (fun _ => rfl) _ | exact noIds_tab (fun _ => rfl) _ _ | rfl)) | exact lb_ro (by (first | assumption | exact noIds_encL (fun _ => rfl) _ | exact noIds_tab (fun _ => rfl) _ _ | rfl)) | exact lb_none | refine lb_cells ?_ (by simp) | exact lb_cap (Nat.le_refl _) (Nat.le_refl _) rfl rfl | exact lb_capn (by assumption) (by (first | assumption | exact noIds_encL (fun _ => rfl) _ | exact noIds_tab (fun _ => rfl) _ _ | rfl)) | exact lw_any | exact lw_int | exact lw_bool | exact lw_ptr rfl | exact lw_slo rfl | exact lw_nils | exact lw_slo_nils | exact lw_sl rfl | exact lw_noid rfl | exact lw_cap rfl (Nat.le_refl _) | refine lw_tup ?_ | refine lw_agg ?_ | assumption))⟩
theorem refused_any {H : Type} {enc : TypeId × Value → H} {W : World} (hg : Gl W gtab) {a0 : Option Addr} {len0 cap0 : Nat} {d0 : DataW H} {p0 : List MemPlace} (fuel : Int) (h0 : DataW.Trod enc Go.Proofs.Tryz.prog W 0 (fun _ => true) true 22 (.slice a0 len0 cap0) d0 p0) :
    Calls Go.Proofs.Tryz.prog 3 #[.slice a0 len0 cap0, .int .i64 fuel] W fun e W' => e = .returned (.bool true) ∧ Below W.heap.size W W' := by
  obtain ⟨L, e0, n0, _, r0⟩ := ins_row h0
  subst e0
  refine SFun.top (rows := [(.slice a0 L.length cap0, L.length, encL insE L)]) (g := gtab) (us := [.slice a0 L.length cap0, .int .i64 fuel]) ⟨r0, trivial⟩ hg (fun r h => ?_) (refused_fun L fuel)
  simp only [VRs, VR]
  exact ⟨_, _, rfl, h 0 _ _ _ rfl, _, _, rfl, rfl, rfl⟩
end
end Go.Lev
