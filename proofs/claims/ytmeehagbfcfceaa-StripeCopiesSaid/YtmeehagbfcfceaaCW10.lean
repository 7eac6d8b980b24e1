/- chapter 3: shapes -/
import Derived.Test.YtmeehagbfcfceaaCW8
import Derived.Test.YtmeehagbfcfceaaLc
import Derived.Test.YtmeehagbfcfceaaChecked
import Derived.KernelRfl

namespace Go.Lev
open Go.RowKit
set_option linter.unusedVariables false
set_option linter.unusedSimpArgs false
set_option maxRecDepth 100000
noncomputable section
/-! Held -/
theorem held_x (n lo hi : Int) (K : Fk) : (xfun Go.Proofs.Try.prog (fun _ => none) 40 31 [.int .i64 n, .int .i64 lo, .int .i64 hi] (mkS []) (vF K)) = (
  bif xcm .lss n lo then (
   K (.int .i64 lo) [] [])
  else (
   bif xcm .gtr n hi then (
    K (.int .i64 hi) [] [])
   else (
    K (.int .i64 n) [] []))) := by kernel_rfl
def hldV (n lo hi : Int) : Int := if n < lo then lo else if hi < n then hi else n

def heldG : Gc := fun args s => match args, s.g with
  | [.int .i64 n, .int .i64 lo, .int .i64 hi], [] => some ([], .int .i64 (hldV n lo hi), s)
  | _, _ => none
theorem held_ok (n lo hi : Int) : SFun Go.Proofs.Try.prog 31 [.int .i64 n, .int .i64 lo, .int .i64 hi] (mkS []) fun l s => l = .int .i64 (hldV n lo hi) ∧ s = mkS [] := by
  refine SFun.mono (SFun.vc (Q := fun l b => l = .int .i64 (hldV n lo hi) ∧ b = []) noCx_ok (n := 40) 0 rfl ?_) fun l s' ⟨b0, ⟨h1, h2⟩, h3⟩ => ⟨h1, by rw [h3, h2]⟩
  rw [held_x]
  simp only [xcm_lss, xcm_gtr, hldV]
  refine ite_way (fun h0 => ?_) (fun h0 => ?_)
  · rw [if_pos h0]; exact ⟨rfl, _, [], [], ⟨rfl, rfl⟩, by (refine ⟨by kernel_rfl, ?_, ?_⟩ <;> repeat (first | exact okTms_nil | refine okTms_cons ?_ ?_ | exact okBlks_nil | refine okBlks_cons ?_ ?_ | exact lws_nil | refine lws_cons ?_ ?_ | exact lb_dead | exact lb_same (by (first | assumption | exact noIds_encL (fun _ => rfl) _ | exact noIds_tab (fun _ => rfl) _ _ | rfl)) | exact lb_ro (by (first | assumption | exact noIds_encL (fun _ => rfl) _ | exact noIds_tab (fun _ => rfl) _ _ | rfl)) | exact lb_none | refine lb_cells ?_ (by simp) | exact lb_cap (Nat.le_refl _) (Nat.le_refl _) rfl rfl | exact lb_capn (by assumption) (by (first | assumption | exact noIds_encL (fun _ => rfl) _ | exact noIds_tab (fun _ => rfl) _ _ | rfl)) | exact lw_any | exact lw_int | exact lw_bool | exact lw_ptr rfl | exact lw_slo rfl | exact lw_nils | exact lw_slo_nils | exact lw_sl rfl | exact lw_noid rfl | exact lw_cap rfl (Nat.le_refl _) | refine lw_tup ?_ | refine lw_agg ?_ | assumption))⟩
  rw [if_neg h0]
  refine ite_way (fun h1 => ?_) (fun h1 => ?_)
  · rw [if_pos h1]; exact ⟨rfl, _, [], [], ⟨rfl, rfl⟩, by (refine ⟨by kernel_rfl, ?_, ?_⟩ <;> repeat (first | exact okTms_nil | refine okTms_cons ?_ ?_ | exact okBlks_nil | refine okBlks_cons ?_ ?_ | exact lws_nil | refine lws_cons ?_ ?_ | exact lb_dead | exact lb_same (by (first | assumption | exact noIds_encL (fun _ => rfl) _ | exact noIds_tab (fun _ => rfl) _ _ | rfl)) | exact lb_ro (by (first | assumption | exact noIds_encL (fun _ => rfl) _ | exact noIds_tab (fun _ => rfl) _ _ | rfl)) | exact lb_none | refine lb_cells ?_ (by simp) | exact lb_cap (Nat.le_refl _) (Nat.le_refl _) rfl rfl | exact lb_capn (by assumption) (by (first | assumption | exact noIds_encL (fun _ => rfl) _ | exact noIds_tab (fun _ => rfl) _ _ | rfl)) | exact lw_any | exact lw_int | exact lw_bool | exact lw_ptr rfl | exact lw_slo rfl | exact lw_nils | exact lw_slo_nils | exact lw_sl rfl | exact lw_noid rfl | exact lw_cap rfl (Nat.le_refl _) | refine lw_tup ?_ | refine lw_agg ?_ | assumption))⟩
  · rw [if_neg h1]; exact ⟨rfl, _, [], [], ⟨rfl, rfl⟩, by (refine ⟨by kernel_rfl, ?_, ?_⟩ <;> repeat (first | exact okTms_nil | refine okTms_cons ?_ ?_ | exact okBlks_nil | refine okBlks_cons ?_ ?_ | exact lws_nil | refine lws_cons ?_ ?_ | exact lb_dead | exact lb_same (by (first | assumption | exact noIds_encL (fun _ => rfl) _ | exact noIds_tab (fun _ => rfl) _ _ | rfl)) | exact lb_ro (by (first | assumption | exact noIds_encL (fun _ => rfl) _ | exact noIds_tab (fun _ => rfl) _ _ | rfl)) | exact lb_none | refine lb_cells ?_ (by simp) | exact lb_cap (Nat.le_refl _) (Nat.le_refl _) rfl rfl | exact lb_capn (by assumption) (by (first | assumption | exact noIds_encL (fun _ => rfl) _ | exact noIds_tab (fun _ => rfl) _ _ | rfl)) | exact lw_any | exact lw_int | exact lw_bool | exact lw_ptr rfl | exact lw_slo rfl | exact lw_nils | exact lw_slo_nils | exact lw_sl rfl | exact lw_noid rfl | exact lw_cap rfl (Nat.le_refl _) | refine lw_tup ?_ | refine lw_agg ?_ | assumption))⟩
theorem heldG_ok : GOk Go.Proofs.Try.prog 31 heldG := by
  intro args s bs l s' hg hb hfr
  unfold heldG at hg
  split at hg
  · rename_i a lo hi hgl
    simp only [Option.some.injEq, Prod.mk.injEq] at hg
    obtain ⟨rfl, rfl, rfl⟩ := hg
    exact SFun.pure hfr hgl rfl rfl (held_ok a lo hi)
  · cases hg
/-! Shape -/
def cxh : Cx := cxl [(31, heldG)]
def shapeG : Gc := fun args s => match args, s.g with
  | [.agg [.int .i64 a, .int .i64 b, .int .i64 c, .int .i64 d, .int .u64 e]], [] => some ([], .agg (shC (xmn (xmx a 32) 256) (xmn (xmx b 1) 16) (xmn (xmx c 1) 16) (xmn (xmx d 1) 4) (xmn e 4611686018427387903)), s)
  | _, _ => none
theorem cxh_ok : CtrOk Go.Proofs.Try.prog (ctrOf cxh) := cxl_ok ⟨heldG_ok, trivial⟩
theorem shape_x (a b c d e : Int) (K : Fk) : (xfun Go.Proofs.Try.prog cxh 40 30 [.agg (shC a b c d e)] (mkS []) (vF K)) = (
  bif xcm .geq e 4611686018427387904 then (
   K (.agg [.int .i64 (hldV a 32 256), .int .i64 (hldV b 1 16), .int .i64 (hldV c 1 16), .int .i64 (hldV d 1 4), .int .u64 4611686018427387903]) [some (.cells [.int .i64 (hldV a 32 256), .int .i64 (hldV b 1 16), .int .i64 (hldV c 1 16), .int .i64 (hldV d 1 4), .int .u64 4611686018427387903] none), some (.cells [.int .i64 (hldV a 32 256), .int .i64 (hldV b 1 16), .int .i64 (hldV c 1 16), .int .i64 (hldV d 1 4), .int .u64 4611686018427387903] none)] [])
  else (
   K (.agg [.int .i64 (hldV a 32 256), .int .i64 (hldV b 1 16), .int .i64 (hldV c 1 16), .int .i64 (hldV d 1 4), .int .u64 e]) [some (.cells [.int .i64 (hldV a 32 256), .int .i64 (hldV b 1 16), .int .i64 (hldV c 1 16), .int .i64 (hldV d 1 4), .int .u64 e] none), some (.cells [.int .i64 (hldV a 32 256), .int .i64 (hldV b 1 16), .int .i64 (hldV c 1 16), .int .i64 (hldV d 1 4), .int .u64 e] none)] [])) := by kernel_rfl
theorem hld_cl {n lo hi : Int} (h : lo ≤ hi) : hldV n lo hi = xmn (xmx n lo) hi := by
  simp only [hldV, wd_mn, wd_mx]; split <;> split <;> (try split) <;> omega
theorem shape_ok (a b c d e : Int) : SFun Go.Proofs.Try.prog 30 [.agg (shC a b c d e)] (mkS []) fun l s => l = .agg (shC (xmn (xmx a 32) 256) (xmn (xmx b 1) 16) (xmn (xmx c 1) 16) (xmn (xmx d 1) 4) (xmn e 4611686018427387903)) ∧ s = mkS [] := by
  refine SFun.mono (SFun.vc (Q := fun l b' => l = .agg (shC (xmn (xmx a 32) 256) (xmn (xmx b 1) 16) (xmn (xmx c 1) 16) (xmn (xmx d 1) 4) (xmn e 4611686018427387903)) ∧ b' = []) cxh_ok (n := 40) 0 rfl ?_) fun l s' ⟨b0, ⟨h1, h2⟩, h3⟩ => ⟨h1, by rw [h3, h2]⟩
  rw [shape_x, hld_cl (by omega), hld_cl (by omega), hld_cl (by omega), hld_cl (by omega), xcm_geq]
  refine ite_way (fun h => ?_) (fun h => ?_)
  · have e1 : xmn e 4611686018427387903 = 4611686018427387903 := by simp only [wd_mn]; split <;> omega
    rw [e1]
    exact ⟨rfl, _, [], [], ⟨rfl, rfl⟩, by (refine ⟨by kernel_rfl, ?_, ?_⟩ <;> repeat (first | exact okTms_nil | refine okTms_cons ?_ ?_ | exact okBlks_nil | refine okBlks_cons ?_ ?_ | exact lws_nil | refine lws_cons ?_ ?_ | exact lb_dead | exact lb_same (by (first | assumption | exact noIds_encL (fun _ => rfl) _ | exact noIds_tab (fun _ => rfl) _ _ | rfl)) | exact lb_ro (by (first | assumption | exact noIds_encL (fun _ => rfl) _ | exact noIds_tab (fun _ => rfl) _ _ | rfl)) | exact lb_none | refine lb_cells ?_ (by simp) | exact lb_cap (Nat.le_refl _) (Nat.le_refl _) rfl rfl | exact lb_capn (by assumption) (by (first | assumption | exact noIds_encL (fun _ => rfl) _ | exact noIds_tab (fun _ => rfl) _ _ | rfl)) | exact lw_any | exact lw_int | exact lw_bool | exact lw_ptr rfl | exact lw_slo rfl | exact lw_nils | exact lw_slo_nils | exact lw_sl rfl | exact lw_noid rfl | exact lw_cap rfl (Nat.le_refl _) | refine lw_tup ?_ | refine lw_agg ?_ | assumption))⟩
  · have e1 : xmn e 4611686018427387903 = e := by simp only [wd_mn]; split <;> omega
    rw [e1]
    exact ⟨rfl, _, [], [], ⟨rfl, rfl⟩, by (refine ⟨by kernel_rfl, ?_, ?_⟩ <;> repeat (first | exact okTms_nil | refine okTms_cons ?_ ?_ | exact okBlks_nil | refine okBlks_cons ?_ ?_ | exact lws_nil | refine lws_cons ?_ ?_ | exact lb_dead | exact lb_same (by (first | assumption | exact noIds_encL (fun _ => rfl) _ | exact noIds_tab (fun _ => rfl) _ _ | rfl)) | exact lb_ro (by (first | assumption | exact noIds_encL (fun _ => rfl) _ | exact noIds_tab (fun _ => rfl) _ _ | rfl)) | exact lb_none | refine lb_cells ?_ (by simp) | exact lb_cap (Nat.le_refl _) (Nat.le_refl _) rfl rfl | exact lb_capn (by assumption) (by (first | assumption | exact noIds_encL (fun _ => rfl) _ | exact noIds_tab (fun _ => rfl) _ _ | rfl)) | exact lw_any | exact lw_int | exact lw_bool | exact lw_ptr rfl | exact lw_slo rfl | exact lw_nils | exact lw_slo_nils | exact lw_sl rfl | exact lw_noid rfl | exact lw_cap rfl (Nat.le_refl _) | refine lw_tup ?_ | refine lw_agg ?_ | assumption))⟩
theorem shapeG_ok : GOk Go.Proofs.Try.prog 30 shapeG := by
  intro args s bs l s' hg hb hfr
  unfold shapeG at hg
  split at hg
  · rename_i a b c d e hgl
    simp only [Option.some.injEq, Prod.mk.injEq] at hg
    obtain ⟨rfl, rfl, rfl⟩ := hg
    exact SFun.pure hfr hgl rfl rfl (shape_ok a b c d e)
  · cases hg

end
end Go.Lev
