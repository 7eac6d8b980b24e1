/- AttemptHeld (P26.1): for any setup the law returns true; what was there stays as it was. Condition: the listed package-level variables hold what the program's text lays. -/
import Derived.Test.YtgnjkmgennlcoaaGreatDoorCW1
import Derived.Test.YtgnjkmgennlcoaaGreatDoorLc
import Derived.Test.YtgnjkmgennlcoaaGreatDoorChecked
import Derived.KernelRfl

import Derived.Test.YtgnjkmgennlcoaaGreatDoorLc
import Derived.Test.YtgnjkmgennlcoaaGreatDoorRows
namespace Go.Lev
open Go.RowKit
set_option linter.unusedVariables false
set_option linter.unusedSimpArgs false
set_option maxRecDepth 100000
noncomputable section
theorem runs26 : isTrue (lrun Go.Proofs.Tryz.prog 20000 4 gtab) = true := by kernel_rfl
theorem runGt_ok : GOk Go.Proofs.Tryz.prog 4 runGt := by
  intro args s bs l s' hg hb hfr
  unfold runGt at hg
  split at hg
  · rename_i g0 F0 hgl
    cases hc : (Nat.beq g0 0 && eqbs F0 formsL) with
    | false => rw [hc] at hg; cases hg
    | true =>
      rw [hc] at hg
      simp only [cond_true, Option.some.injEq, Prod.mk.injEq] at hg
      obtain ⟨rfl, rfl, rfl⟩ := hg
      simp only [Bool.and_eq_true] at hc
      obtain ⟨c1, c2⟩ := hc
      have e : s.g = gtab := by rw [hgl, Nat.eq_of_beq_eq_true c1, eqbs_eq c2]; rfl
      refine SFun.closed (fuel := 20000) hfr ?_
      rw [e]; exact runs26
  · cases hg
theorem cxa_ok : CtrOk Go.Proofs.Tryz.prog (ctrOf cxa) := cxl_ok ⟨runGt_ok, wrapG_ok heldG_ok, wrapG_ok shapeG_ok, trivial⟩
theorem cm_self (x : Int) : xcm .eql x x = true := t_eql rfl
theorem leafB {x : Bool} {bs : List (Option LB)} (h : x = true) : convOk 0 1 [0] [.bool x] bs [] [(0, .bool true)] [] := by subst h; (exact ⟨by kernel_rfl, by ((repeat refine okTms_cons (by (first | exact lw_any | exact lw_int | exact lw_bool | exact lw_ptr rfl | exact lw_slo rfl | exact lw_nilp | exact lw_nils | exact lw_str | exact lw_slo_nils | exact lw_slo_sle | exact lw_sl rfl | exact lw_unb | exact lw_gptr | exact lw_noid rfl | exact lw_cap rfl (Nat.le_refl _) | exact lw_cap rfl (by omega) | assumption | exact lw_tup (by ((repeat refine lws_cons (by (first | exact lw_any | exact lw_int | exact lw_bool | exact lw_ptr rfl | exact lw_slo rfl | exact lw_nilp | exact lw_nils | exact lw_str | exact lw_slo_nils | exact lw_slo_sle | exact lw_sl rfl | exact lw_unb | exact lw_gptr | exact lw_noid rfl | exact lw_cap rfl (Nat.le_refl _) | exact lw_cap rfl (by omega) | assumption)) ?_); exact lws_nil)))) ?_); exact okTms_nil), by ((repeat refine okBlks_cons (by (first | exact lb_dead | exact lb_same (by (first | assumption | exact noIds_tab (fun _ => rfl) _ _ | exact noIds_encL (fun _ => rfl) _ | rfl)) | exact lb_ro (by (first | assumption | exact noIds_tab (fun _ => rfl) _ _ | exact noIds_encL (fun _ => rfl) _ | rfl)) | exact lb_none | exact lb_cells (by ((repeat refine lws_cons (by (first | exact lw_any | exact lw_int | exact lw_bool | exact lw_ptr rfl | exact lw_slo rfl | exact lw_nilp | exact lw_nils | exact lw_str | exact lw_slo_nils | exact lw_slo_sle | exact lw_sl rfl | exact lw_unb | exact lw_gptr | exact lw_noid rfl | exact lw_cap rfl (Nat.le_refl _) | exact lw_cap rfl (by omega) | assumption | exact lw_tup (by ((repeat refine lws_cons (by (first | exact lw_any | exact lw_int | exact lw_bool | exact lw_ptr rfl | exact lw_slo rfl | exact lw_nilp | exact lw_nils | exact lw_str | exact lw_slo_nils | exact lw_slo_sle | exact lw_sl rfl | exact lw_unb | exact lw_gptr | exact lw_noid rfl | exact lw_cap rfl (Nat.le_refl _) | exact lw_cap rfl (by omega) | assumption)) ?_); exact lws_nil)))) ?_); exact lws_nil)) (by simp) | exact lb_iter | exact lb_cap (Nat.le_refl _) (Nat.le_refl _) rfl rfl | exact lb_capn (by assumption) (by (first | assumption | exact noIds_tab (fun _ => rfl) _ _ | exact noIds_encL (fun _ => rfl) _ | rfl)) | assumption)) ?_); exact okBlks_nil)⟩)
theorem held_fun (a b c d e f g h : Int) : SFun Go.Proofs.Tryz.prog 3 [.agg (suC a b c d e f g h)] (mkS [] gtab) fun l _ => l = .bool true := by
  refine SFun.mono (SFun.vc (Q := fun l _ => l = .bool true) cxa_ok (n := 60) 0 rfl ?_) fun l s' ⟨b0, h1, _⟩ => h1
  rw [held_y, hld_cl (by omega), hld_cl (by omega), hld_cl (by omega)]
  simp only [cm_self, cond_true]
  exact ⟨rfl, _, _, [], rfl, leafB rfl⟩
theorem held_any {H : Type} {enc : TypeId × Value → H} {W : World} {cs : Array Value} {dd : DataW H} {pp : List MemPlace} (hg : Gl W gtab) (hs : DataW.Trod enc Go.Proofs.Tryz.prog W 0 (fun _ => true) true 26 (.agg cs) dd pp) : Calls Go.Proofs.Tryz.prog 3 #[.agg cs] W fun e W' => e = .returned (.bool true) ∧ Below W.heap.size W W' := by
  obtain ⟨a, b, c, d, e, f, g, h, rfl, _⟩ := su_agg hs
  refine SFun.top (rows := []) (g := gtab) (us := [.agg #[.int .i64 a, .int .i64 b, .int .i64 c, .int .i64 d, .int .u64 e, .int .i64 f, .int .i64 g, .int .i64 h]]) trivial hg (fun r h' => ?_) (held_fun a b c d e f g h)
  simp only [VRs, VR]
  exact ⟨_, _, rfl, ⟨_, rfl, _, _, rfl, rfl, _, _, rfl, rfl, _, _, rfl, rfl, _, _, rfl, rfl, _, _, rfl, rfl, _, _, rfl, rfl, _, _, rfl, rfl, _, _, rfl, rfl, rfl⟩, rfl⟩
end
end Go.Lev
