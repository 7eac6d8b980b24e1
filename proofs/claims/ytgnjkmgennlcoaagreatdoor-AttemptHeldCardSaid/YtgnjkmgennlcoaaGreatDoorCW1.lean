/- AttemptHeld (P26.1): for any setup the law returns true; what was there stays as it was. Condition: the listed package-level variables hold what the program's text lays. -/
import Derived.Test.YtgnjkmgennlcoaaGreatDoorLc
import Derived.Test.YtgnjkmgennlcoaaGreatDoorChecked
import Derived.KernelRfl

import Derived.Test.YtgnjkmgennlcoaaGreatDoorLc
import Derived.Test.YtgnjkmgennlcoaaGreatDoorRows
namespace Go.Lev
open Go.RowKit
set_option linter.unusedVariables false
set_option linter.unusedSimpArgs false
set_option maxRecDepth 100000
noncomputable section
abbrev shC (a b c d e : Int) : List LV := [.int .i64 a, .int .i64 b, .int .i64 c, .int .i64 d, .int .u64 e]
abbrev suC (a b c d e f g h : Int) : List LV := [.int .i64 a, .int .i64 b, .int .i64 c, .int .i64 d, .int .u64 e, .int .i64 f, .int .i64 g, .int .i64 h]
/-! Held -/
theorem held_x (n lo hi : Int) (K : Fk) : (xfun Go.Proofs.Tryz.prog (fun _ => none) 40 21 [.int .i64 n, .int .i64 lo, .int .i64 hi] (mkS []) (vF K)) = (
  bif xcm .lss n lo then (
   K (.int .i64 lo) [] [])
  else (
   bif xcm .gtr n hi then (
    K (.int .i64 hi) [] [])
   else (
    K (.int .i64 n) [] []))) := by kernel_rfl
def hldV (n lo hi : Int) : Int := if n < lo then lo else if hi < n then hi else n

def heldG : Gc := fun args s => match args, s.g with
  | [.int .i64 n, .int .i64 lo, .int .i64 hi], [] => some ([], .int .i64 (hldV n lo hi), s)
  | _, _ => none
theorem held_ok (n lo hi : Int) : SFun Go.Proofs.Tryz.prog 21 [.int .i64 n, .int .i64 lo, .int .i64 hi] (mkS []) fun l s => l = .int .i64 (hldV n lo hi) ∧ s = mkS [] := by
  refine SFun.mono (SFun.vc (Q := fun l b => l = .int .i64 (hldV n lo hi) ∧ b = []) noCx_ok (n := 40) 0 rfl ?_) fun l s' ⟨b0, ⟨h1, h2⟩, h3⟩ => ⟨h1, by rw [h3, h2]⟩
  rw [held_x]
  simp only [xcm_lss, xcm_gtr, hldV]
  refine ite_way (fun h0 => ?_) (fun h0 => ?_)
  · rw [if_pos h0]; exact ⟨rfl, _, [], [], ⟨rfl, rfl⟩, by (exact ⟨by kernel_rfl, by ((repeat refine okTms_cons (by (first | exact lw_any | exact lw_int | exact lw_bool | exact lw_ptr rfl | exact lw_slo rfl | exact lw_nilp | exact lw_nils | exact lw_str | exact lw_slo_nils | exact lw_slo_sle | exact lw_sl rfl | exact lw_unb | exact lw_gptr | exact lw_noid rfl | exact lw_cap rfl (Nat.le_refl _) | exact lw_cap rfl (by omega) | assumption | exact lw_tup (by ((repeat refine lws_cons (by (first | exact lw_any | exact lw_int | exact lw_bool | exact lw_ptr rfl | exact lw_slo rfl | exact lw_nilp | exact lw_nils | exact lw_str | exact lw_slo_nils | exact lw_slo_sle | exact lw_sl rfl | exact lw_unb | exact lw_gptr | exact lw_noid rfl | exact lw_cap rfl (Nat.le_refl _) | exact lw_cap rfl (by omega) | assumption)) ?_); exact lws_nil)))) ?_); exact okTms_nil), by ((repeat refine okBlks_cons (by (first | exact lb_dead | exact lb_same (by (first | assumption | exact noIds_tab (fun _ => rfl) _ _ | exact noIds_encL (fun _ => rfl) _ | rfl)) | exact lb_ro (by (first | assumption | exact noIds_tab (fun _ => rfl) _ _ | exact noIds_encL (fun _ => rfl) _ | rfl)) | exact lb_none | exact lb_cells (by ((repeat refine lws_cons (by (first | exact lw_any | exact lw_int | exact lw_bool | exact lw_ptr rfl | exact lw_slo rfl | exact lw_nilp | exact lw_nils | exact lw_str | exact lw_slo_nils | exact lw_slo_sle | exact lw_sl rfl | exact lw_unb | exact lw_gptr | exact lw_noid rfl | exact lw_cap rfl (Nat.le_refl _) | exact lw_cap rfl (by omega) | assumption | exact lw_tup (by ((repeat refine lws_cons (by (first | exact lw_any | exact lw_int | exact lw_bool | exact lw_ptr rfl | exact lw_slo rfl | exact lw_nilp | exact lw_nils | exact lw_str | exact lw_slo_nils | exact lw_slo_sle | exact lw_sl rfl | exact lw_unb | exact lw_gptr | exact lw_noid rfl | exact lw_cap rfl (Nat.le_refl _) | exact lw_cap rfl (by omega) | assumption)) ?_); exact lws_nil)))) ?_); exact lws_nil)) (by simp) | exact lb_iter | exact lb_cap (Nat.le_refl _) (Nat.le_refl _) rfl rfl | exact lb_capn (by assumption) (by (first | assumption | exact noIds_tab (fun _ => rfl) _ _ | exact noIds_encL (fun _ => rfl) _ | rfl)) | assumption)) ?_); exact okBlks_nil)⟩)⟩
  rw [if_neg h0]
  refine ite_way (fun h1 => ?_) (fun h1 => ?_)
  · rw [if_pos h1]; exact ⟨rfl, _, [], [], ⟨rfl, rfl⟩, by (exact ⟨by kernel_rfl, by ((repeat refine okTms_cons (by (first | exact lw_any | exact lw_int | exact lw_bool | exact lw_ptr rfl | exact lw_slo rfl | exact lw_nilp | exact lw_nils | exact lw_str | exact lw_slo_nils | exact lw_slo_sle | exact lw_sl rfl | exact lw_unb | exact lw_gptr | exact lw_noid rfl | exact lw_cap rfl (Nat.le_refl _) | exact lw_cap rfl (by omega) | assumption | exact lw_tup (by ((repeat refine lws_cons (by (first | exact lw_any | exact lw_int | exact lw_bool | exact lw_ptr rfl | exact lw_slo rfl | exact lw_nilp | exact lw_nils | exact lw_str | exact lw_slo_nils | exact lw_slo_sle | exact lw_sl rfl | exact lw_unb | exact lw_gptr | exact lw_noid rfl | exact lw_cap rfl (Nat.le_refl _) | exact lw_cap rfl (by omega) | assumption)) ?_); exact lws_nil)))) ?_); exact okTms_nil), by ((repeat refine okBlks_cons (by (first | exact lb_dead | exact lb_same (by (first | assumption | exact noIds_tab (fun _ => rfl) _ _ | exact noIds_encL (fun _ => rfl) _ | rfl)) | exact lb_ro (by (first | assumption | exact noIds_tab (fun _ => rfl) _ _ | exact noIds_encL (fun _ => rfl) _ | rfl)) | exact lb_none | exact lb_cells (by ((repeat refine lws_cons (by (first | exact lw_any | exact lw_int | exact lw_bool | exact lw_ptr rfl | exact lw_slo rfl | exact lw_nilp | exact lw_nils | exact lw_str | exact lw_slo_nils | exact lw_slo_sle | exact lw_sl rfl | exact lw_unb | exact lw_gptr | exact lw_noid rfl | exact lw_cap rfl (Nat.le_refl _) | exact lw_cap rfl (by omega) | assumption | exact lw_tup (by ((repeat refine lws_cons (by (first | exact lw_any | exact lw_int | exact lw_bool | exact lw_ptr rfl | exact lw_slo rfl | exact lw_nilp | exact lw_nils | exact lw_str | exact lw_slo_nils | exact lw_slo_sle | exact lw_sl rfl | exact lw_unb | exact lw_gptr | exact lw_noid rfl | exact lw_cap rfl (Nat.le_refl _) | exact lw_cap rfl (by omega) | assumption)) ?_); exact lws_nil)))) ?_); exact lws_nil)) (by simp) | exact lb_iter | exact lb_cap (Nat.le_refl _) (Nat.le_refl _) rfl rfl | exact lb_capn (by assumption) (by (first | assumption | exact noIds_tab (fun _ => rfl) _ _ | exact noIds_encL (fun _ => rfl) _ | rfl)) | assumption)) ?_); exact okBlks_nil)⟩)⟩
  · rw [if_neg h1]; exact ⟨rfl, _, [], [], ⟨rfl, rfl⟩, by (exact ⟨by kernel_rfl, by ((repeat refine okTms_cons (by (first | exact lw_any | exact lw_int | exact lw_bool | exact lw_ptr rfl | exact lw_slo rfl | exact lw_nilp | exact lw_nils | exact lw_str | exact lw_slo_nils | exact lw_slo_sle | exact lw_sl rfl | exact lw_unb | exact lw_gptr | exact lw_noid rfl | exact lw_cap rfl (Nat.le_refl _) | exact lw_cap rfl (by omega) | assumption | exact lw_tup (by ((repeat refine lws_cons (by (first | exact lw_any | exact lw_int | exact lw_bool | exact lw_ptr rfl | exact lw_slo rfl | exact lw_nilp | exact lw_nils | exact lw_str | exact lw_slo_nils | exact lw_slo_sle | exact lw_sl rfl | exact lw_unb | exact lw_gptr | exact lw_noid rfl | exact lw_cap rfl (Nat.le_refl _) | exact lw_cap rfl (by omega) | assumption)) ?_); exact lws_nil)))) ?_); exact okTms_nil), by ((repeat refine okBlks_cons (by (first | exact lb_dead | exact lb_same (by (first | assumption | exact noIds_tab (fun _ => rfl) _ _ | exact noIds_encL (fun _ => rfl) _ | rfl)) | exact lb_ro (by (first | assumption | exact noIds_tab (fun _ => rfl) _ _ | exact noIds_encL (fun _ => rfl) _ | rfl)) | exact lb_none | exact lb_cells (by ((repeat refine lws_cons (by (first | exact lw_any | exact lw_int | exact lw_bool | exact lw_ptr rfl | exact lw_slo rfl | exact lw_nilp | exact lw_nils | exact lw_str | exact lw_slo_nils | exact lw_slo_sle | exact lw_sl rfl | exact lw_unb | exact lw_gptr | exact lw_noid rfl | exact lw_cap rfl (Nat.le_refl _) | exact lw_cap rfl (by omega) | assumption | exact lw_tup (by ((repeat refine lws_cons (by (first | exact lw_any | exact lw_int | exact lw_bool | exact lw_ptr rfl | exact lw_slo rfl | exact lw_nilp | exact lw_nils | exact lw_str | exact lw_slo_nils | exact lw_slo_sle | exact lw_sl rfl | exact lw_unb | exact lw_gptr | exact lw_noid rfl | exact lw_cap rfl (Nat.le_refl _) | exact lw_cap rfl (by omega) | assumption)) ?_); exact lws_nil)))) ?_); exact lws_nil)) (by simp) | exact lb_iter | exact lb_cap (Nat.le_refl _) (Nat.le_refl _) rfl rfl | exact lb_capn (by assumption) (by (first | assumption | exact noIds_tab (fun _ => rfl) _ _ | exact noIds_encL (fun _ => rfl) _ | rfl)) | assumption)) ?_); exact okBlks_nil)⟩)⟩
theorem heldG_ok : GOk Go.Proofs.Tryz.prog 21 heldG := by
  intro args s bs l s' hg hb hfr
  unfold heldG at hg
  split at hg
  · rename_i a lo hi hgl
    simp only [Option.some.injEq, Prod.mk.injEq] at hg
    obtain ⟨rfl, rfl, rfl⟩ := hg
    exact SFun.pure hfr hgl rfl rfl (held_ok a lo hi)
  · cases hg
/-! Shape -/
def cxh : Cx := cxl [(21, heldG)]
def shapeG : Gc := fun args s => match args, s.g with
  | [.agg [.int .i64 a, .int .i64 b, .int .i64 c, .int .i64 d, .int .u64 e]], [] => some ([], .agg (shC (xmn (xmx a 32) 256) (xmn (xmx b 1) 16) (xmn (xmx c 1) 16) (xmn (xmx d 1) 4) (xmn e 4611686018427387903)), s)
  | _, _ => none
theorem cxh_ok : CtrOk Go.Proofs.Tryz.prog (ctrOf cxh) := cxl_ok ⟨heldG_ok, trivial⟩
theorem shape_x (a b c d e : Int) (K : Fk) : (xfun Go.Proofs.Tryz.prog cxh 40 20 [.agg (shC a b c d e)] (mkS []) (vF K)) = (
  bif xcm .geq e 4611686018427387904 then (
   K (.agg [.int .i64 (hldV a 32 256), .int .i64 (hldV b 1 16), .int .i64 (hldV c 1 16), .int .i64 (hldV d 1 4), .int .u64 4611686018427387903]) [some (.cells [.int .i64 (hldV a 32 256), .int .i64 (hldV b 1 16), .int .i64 (hldV c 1 16), .int .i64 (hldV d 1 4), .int .u64 4611686018427387903] none), some (.cells [.int .i64 (hldV a 32 256), .int .i64 (hldV b 1 16), .int .i64 (hldV c 1 16), .int .i64 (hldV d 1 4), .int .u64 4611686018427387903] none)] [])
  else (
   K (.agg [.int .i64 (hldV a 32 256), .int .i64 (hldV b 1 16), .int .i64 (hldV c 1 16), .int .i64 (hldV d 1 4), .int .u64 e]) [some (.cells [.int .i64 (hldV a 32 256), .int .i64 (hldV b 1 16), .int .i64 (hldV c 1 16), .int .i64 (hldV d 1 4), .int .u64 e] none), some (.cells [.int .i64 (hldV a 32 256), .int .i64 (hldV b 1 16), .int .i64 (hldV c 1 16), .int .i64 (hldV d 1 4), .int .u64 e] none)] [])) := by kernel_rfl
theorem hld_cl {n lo hi : Int} (h : lo ≤ hi) : hldV n lo hi = xmn (xmx n lo) hi := by
  simp only [hldV, wd_mn, wd_mx]; split <;> split <;> (try split) <;> omega
theorem shape_ok (a b c d e : Int) : SFun Go.Proofs.Tryz.prog 20 [.agg (shC a b c d e)] (mkS []) fun l s => l = .agg (shC (xmn (xmx a 32) 256) (xmn (xmx b 1) 16) (xmn (xmx c 1) 16) (xmn (xmx d 1) 4) (xmn e 4611686018427387903)) ∧ s = mkS [] := by
  refine SFun.mono (SFun.vc (Q := fun l b' => l = .agg (shC (xmn (xmx a 32) 256) (xmn (xmx b 1) 16) (xmn (xmx c 1) 16) (xmn (xmx d 1) 4) (xmn e 4611686018427387903)) ∧ b' = []) cxh_ok (n := 40) 0 rfl ?_) fun l s' ⟨b0, ⟨h1, h2⟩, h3⟩ => ⟨h1, by rw [h3, h2]⟩
  rw [shape_x, hld_cl (by omega), hld_cl (by omega), hld_cl (by omega), hld_cl (by omega), xcm_geq]
  refine ite_way (fun h => ?_) (fun h => ?_)
  · have e1 : xmn e 4611686018427387903 = 4611686018427387903 := by simp only [wd_mn]; split <;> omega
    rw [e1]
    exact ⟨rfl, _, [], [], ⟨rfl, rfl⟩, by (exact ⟨by kernel_rfl, by ((repeat refine okTms_cons (by (first | exact lw_any | exact lw_int | exact lw_bool | exact lw_ptr rfl | exact lw_slo rfl | exact lw_nilp | exact lw_nils | exact lw_str | exact lw_slo_nils | exact lw_slo_sle | exact lw_sl rfl | exact lw_unb | exact lw_gptr | exact lw_noid rfl | exact lw_cap rfl (Nat.le_refl _) | exact lw_cap rfl (by omega) | assumption | exact lw_tup (by ((repeat refine lws_cons (by (first | exact lw_any | exact lw_int | exact lw_bool | exact lw_ptr rfl | exact lw_slo rfl | exact lw_nilp | exact lw_nils | exact lw_str | exact lw_slo_nils | exact lw_slo_sle | exact lw_sl rfl | exact lw_unb | exact lw_gptr | exact lw_noid rfl | exact lw_cap rfl (Nat.le_refl _) | exact lw_cap rfl (by omega) | assumption)) ?_); exact lws_nil)))) ?_); exact okTms_nil), by ((repeat refine okBlks_cons (by (first | exact lb_dead | exact lb_same (by (first | assumption | exact noIds_tab (fun _ => rfl) _ _ | exact noIds_encL (fun _ => rfl) _ | rfl)) | exact lb_ro (by (first | assumption | exact noIds_tab (fun _ => rfl) _ _ | exact noIds_encL (fun _ => rfl) _ | rfl)) | exact lb_none | exact lb_cells (by ((repeat refine lws_cons (by (first | exact lw_any | exact lw_int | exact lw_bool | exact lw_ptr rfl | exact lw_slo rfl | exact lw_nilp | exact lw_nils | exact lw_str | exact lw_slo_nils | exact lw_slo_sle | exact lw_sl rfl | exact lw_unb | exact lw_gptr | exact lw_noid rfl | exact lw_cap rfl (Nat.le_refl _) | exact lw_cap rfl (by omega) | assumption | exact lw_tup (by ((repeat refine lws_cons (by (first | exact lw_any | exact lw_int | exact lw_bool | exact lw_ptr rfl | exact lw_slo rfl | exact lw_nilp | exact lw_nils | exact lw_str | exact lw_slo_nils | exact lw_slo_sle | exact lw_sl rfl | exact lw_unb | exact lw_gptr | exact lw_noid rfl | exact lw_cap rfl (Nat.le_refl _) | exact lw_cap rfl (by omega) | assumption)) ?_); exact lws_nil)))) ?_); exact lws_nil)) (by simp) | exact lb_iter | exact lb_cap (Nat.le_refl _) (Nat.le_refl _) rfl rfl | exact lb_capn (by assumption) (by (first | assumption | exact noIds_tab (fun _ => rfl) _ _ | exact noIds_encL (fun _ => rfl) _ | rfl)) | assumption)) ?_); exact okBlks_nil)⟩)⟩
  · have e1 : xmn e 4611686018427387903 = e := by simp only [wd_mn]; split <;> omega
    rw [e1]
    exact ⟨rfl, _, [], [], ⟨rfl, rfl⟩, by (exact ⟨by kernel_rfl, by ((repeat refine okTms_cons (by (first | exact lw_any | exact lw_int | exact lw_bool | exact lw_ptr rfl | exact lw_slo rfl | exact lw_nilp | exact lw_nils | exact lw_str | exact lw_slo_nils | exact lw_slo_sle | exact lw_sl rfl | exact lw_unb | exact lw_gptr | exact lw_noid rfl | exact lw_cap rfl (Nat.le_refl _) | exact lw_cap rfl (by omega) | assumption | exact lw_tup (by ((repeat refine lws_cons (by (first | exact lw_any | exact lw_int | exact lw_bool | exact lw_ptr rfl | exact lw_slo rfl | exact lw_nilp | exact lw_nils | exact lw_str | exact lw_slo_nils | exact lw_slo_sle | exact lw_sl rfl | exact lw_unb | exact lw_gptr | exact lw_noid rfl | exact lw_cap rfl (Nat.le_refl _) | exact lw_cap rfl (by omega) | assumption)) ?_); exact lws_nil)))) ?_); exact okTms_nil), by ((repeat refine okBlks_cons (by (first | exact lb_dead | exact lb_same (by (first | assumption | exact noIds_tab (fun _ => rfl) _ _ | exact noIds_encL (fun _ => rfl) _ | rfl)) | exact lb_ro (by (first | assumption | exact noIds_tab (fun _ => rfl) _ _ | exact noIds_encL (fun _ => rfl) _ | rfl)) | exact lb_none | exact lb_cells (by ((repeat refine lws_cons (by (first | exact lw_any | exact lw_int | exact lw_bool | exact lw_ptr rfl | exact lw_slo rfl | exact lw_nilp | exact lw_nils | exact lw_str | exact lw_slo_nils | exact lw_slo_sle | exact lw_sl rfl | exact lw_unb | exact lw_gptr | exact lw_noid rfl | exact lw_cap rfl (Nat.le_refl _) | exact lw_cap rfl (by omega) | assumption | exact lw_tup (by ((repeat refine lws_cons (by (first | exact lw_any | exact lw_int | exact lw_bool | exact lw_ptr rfl | exact lw_slo rfl | exact lw_nilp | exact lw_nils | exact lw_str | exact lw_slo_nils | exact lw_slo_sle | exact lw_sl rfl | exact lw_unb | exact lw_gptr | exact lw_noid rfl | exact lw_cap rfl (Nat.le_refl _) | exact lw_cap rfl (by omega) | assumption)) ?_); exact lws_nil)))) ?_); exact lws_nil)) (by simp) | exact lb_iter | exact lb_cap (Nat.le_refl _) (Nat.le_refl _) rfl rfl | exact lb_capn (by assumption) (by (first | assumption | exact noIds_tab (fun _ => rfl) _ _ | exact noIds_encL (fun _ => rfl) _ | rfl)) | assumption)) ?_); exact okBlks_nil)⟩)⟩
theorem shapeG_ok : GOk Go.Proofs.Tryz.prog 20 shapeG := by
  intro args s bs l s' hg hb hfr
  unfold shapeG at hg
  split at hg
  · rename_i a b c d e hgl
    simp only [Option.some.injEq, Prod.mk.injEq] at hg
    obtain ⟨rfl, rfl, rfl⟩ := hg
    exact SFun.pure hfr hgl rfl rfl (shape_ok a b c d e)
  · cases hg

def formsL : List LV := flatD Go.Proofs.YtgnjkmgennlcoaaGreatDoor.Rows.laid_quietus_code_forms
def gtab : Glb := [(0, formsL)]
def runGt : Gc := fun args s => match args, s.g with
  | [], [(g0, F0)] => cond (Nat.beq g0 0 && eqbs F0 formsL) (some ([], .bool true, s)) none
  | _, _ => none
def cxa : Cx := cxl [(4, runGt), (21, wrapG heldG), (20, wrapG shapeG)]
theorem held_y (a b c d e f g h : Int) (K : Fk) : (xfun Go.Proofs.Tryz.prog cxa 60 3 [.agg (suC a b c d e f g h)] (mkS [] gtab) (vF K)) = (
  bif xcm .eql f f then
  bif xcm .eql f f then
  bif xcm .eql g g then
  bif xcm .eql g g then
  bif xcm .eql h h then
  bif xcm .eql h h then
  bif xcm .eql a a then
  bif xcm .eql b b then
  bif xcm .eql c c then
  bif xcm .eql d d then
  bif xcm .eql e e then
  bif xcm .eql f f then
  bif xcm .eql g g then
  bif xcm .eql h h then
  bif xcm .eql a a then
  bif xcm .eql b b then
  bif xcm .eql c c then
  bif xcm .eql d d then
  bif xcm .eql e e then
  bif xcm .eql f f then
  bif xcm .eql g g then
  bif xcm .eql h h then
  K (.bool (xand (xand (xcm .eql (xmn (xmx a 32) 256) (xmn (xmx a 32) 256)) (xand (xcm .eql (xmn (xmx b 1) 16) (xmn (xmx b 1) 16)) (xand (xcm .eql (xmn (xmx c 1) 16) (xmn (xmx c 1) 16)) (xand (xcm .eql (xmn (xmx d 1) 4) (xmn (xmx d 1) 4)) (xand (xcm .eql (xmn e 4611686018427387903) (xmn e 4611686018427387903)) true))))) (xand (xcm .eql (xmn (xmx f 0) 4) (hldV f 0 4)) (xand (xcm .eql (xmn (xmx g 0) 96) (hldV g 0 96)) (xand (xcm .eql (xmn (xmx h 0) 400) (hldV h 0 400)) true))))) [some (.cells [.int .i64 a, .int .i64 b, .int .i64 c, .int .i64 d, .int .u64 e, .int .i64 f, .int .i64 g, .int .i64 h] none), some (.cells [.int .i64 a, .int .i64 b, .int .i64 c, .int .i64 d, .int .u64 e, .int .i64 f, .int .i64 g, .int .i64 h] none), some (.cells [.int .i64 (xmn (xmx a 32) 256), .int .i64 (xmn (xmx b 1) 16), .int .i64 (xmn (xmx c 1) 16), .int .i64 (xmn (xmx d 1) 4), .int .u64 (xmn e 4611686018427387903), .int .i64 (xmn (xmx f 0) 4), .int .i64 (xmn (xmx g 0) 96), .int .i64 (xmn (xmx h 0) 400)] none), some (.cells [.int .i64 a, .int .i64 b, .int .i64 c, .int .i64 d, .int .u64 e] none), some (.cells [.int .i64 (xmn (xmx a 32) 256), .int .i64 (xmn (xmx b 1) 16), .int .i64 (xmn (xmx c 1) 16), .int .i64 (xmn (xmx d 1) 4), .int .u64 (xmn e 4611686018427387903)] none), some (.cells [.int .i64 (xmn (xmx a 32) 256), .int .i64 (xmn (xmx b 1) 16), .int .i64 (xmn (xmx c 1) 16), .int .i64 (xmn (xmx d 1) 4), .int .u64 (xmn e 4611686018427387903), .int .i64 (hldV f 0 4), .int .i64 (hldV g 0 96), .int .i64 (hldV h 0 400)] none), some (.cells [.int .i64 (xmn (xmx a 32) 256), .int .i64 (xmn (xmx b 1) 16), .int .i64 (xmn (xmx c 1) 16), .int .i64 (xmn (xmx d 1) 4), .int .u64 (xmn e 4611686018427387903), .int .i64 (hldV f 0 4), .int .i64 (hldV g 0 96), .int .i64 (hldV h 0 400)] none)] gtab
  else False
  else False
  else False
  else False
  else False
  else False
  else False
  else False
  else False
  else False
  else False
  else False
  else False
  else False
  else False
  else False
  else False
  else False
  else False
  else False
  else False
  else False) := by kernel_rfl
theorem su_agg {H : Type} {enc : TypeId × Value → H} {W : World} {cs : Array Value} {d : DataW H} {ps : List MemPlace} (h : DataW.Trod enc Go.Proofs.Tryz.prog W 0 (fun _ => true) true 26 (.agg cs) d ps) :
    ∃ (a : Int) (b : Int) (c : Int) (d : Int) (e : Int) (f : Int) (g : Int) (h : Int), cs = #[.int .i64 a, .int .i64 b, .int .i64 c, .int .i64 d, .int .u64 e, .int .i64 f, .int .i64 g, .int .i64 h] ∧ (IntKind.i64.min ≤ a ∧ a ≤ IntKind.i64.max) ∧ (IntKind.i64.min ≤ b ∧ b ≤ IntKind.i64.max) ∧ (IntKind.i64.min ≤ c ∧ c ≤ IntKind.i64.max) ∧ (IntKind.i64.min ≤ d ∧ d ≤ IntKind.i64.max) ∧ (IntKind.u64.min ≤ e ∧ e ≤ IntKind.u64.max) ∧ (IntKind.i64.min ≤ f ∧ f ≤ IntKind.i64.max) ∧ (IntKind.i64.min ≤ g ∧ g ≤ IntKind.i64.max) ∧ (IntKind.i64.min ≤ h ∧ h ≤ IntKind.i64.max) := by
  obtain ⟨fuel, hf⟩ := h
  obtain ⟨_, _, _, _, hlen, _, _⟩ := DataW.trod_struct Go.Proofs.Tryz.underlying26 hf
  have hl : cs.toList.length = 8 := hlen.trans (by kernel_rfl)
  have hfl := fl_ok 8 (l := [(0, .int .i64), (1, .int .i64), (2, .int .i64), (3, .int .i64), (4, .int .u64), (5, .int .i64), (6, .int .i64), (7, .int .i64)]) (by kernel_rfl) hf
  obtain ⟨_, e0, a, rfl, b0⟩ := hfl (0, .int .i64) (by simp)
  obtain ⟨_, e1, b, rfl, b1⟩ := hfl (1, .int .i64) (by simp)
  obtain ⟨_, e2, c, rfl, b2⟩ := hfl (2, .int .i64) (by simp)
  obtain ⟨_, e3, d, rfl, b3⟩ := hfl (3, .int .i64) (by simp)
  obtain ⟨_, e4, e, rfl, b4⟩ := hfl (4, .int .u64) (by simp)
  obtain ⟨_, e5, f, rfl, b5⟩ := hfl (5, .int .i64) (by simp)
  obtain ⟨_, e6, g, rfl, b6⟩ := hfl (6, .int .i64) (by simp)
  obtain ⟨_, e7, h, rfl, b7⟩ := hfl (7, .int .i64) (by simp)
  refine ⟨a, b, c, d, e, f, g, h, ?_, b0, b1, b2, b3, b4, b5, b6, b7⟩
  have hcs : cs.toList = [.int .i64 a, .int .i64 b, .int .i64 c, .int .i64 d, .int .u64 e, .int .i64 f, .int .i64 g, .int .i64 h] := by
    refine List.ext_getElem? fun i => ?_
    match i with
    | 0 => exact e0
    | 1 => exact e1
    | 2 => exact e2
    | 3 => exact e3
    | 4 => exact e4
    | 5 => exact e5
    | 6 => exact e6
    | 7 => exact e7
    | i + 8 => rw [List.getElem?_eq_none (by omega), List.getElem?_eq_none (by simp)]
  cases cs; simpa using hcs
end
end Go.Lev
