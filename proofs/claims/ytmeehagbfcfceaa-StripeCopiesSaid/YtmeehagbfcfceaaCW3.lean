/- chapter 3: the table's Load, Store, Cas -/
import Derived.Test.YtmeehagbfcfceaaCW2
import Derived.Test.YtmeehagbfcfceaaLc
import Derived.Test.YtmeehagbfcfceaaChecked
import Derived.KernelRfl

namespace Go.Lev
open Go.RowKit
set_option linter.unusedVariables false
set_option linter.unusedSimpArgs false
set_option maxRecDepth 100000
noncomputable section
abbrev tS (wi : Int) (nl : Nat) (ls : List LV) : List LB := [.cells [.int .i64 wi, .slo 1 0 nl 0] none, .cells ls (some 3)]
theorem tld_x (a wi : Int) (nl : Nat) (ls : List LV) (K : Fk) : (xfun Go.Proofs.Try.prog (fun _ => none) 40 11 [.ptr 0 0, .int .i64 a] (mkS (tS wi nl ls)) (vF K)) = (
  bif xcm .geq a 0 then (
   bif xnot (xcm .lss a ↑nl) then (
    K (.tup [.agg [.int .u64 0, .bool false, .int .i64 0], .int .i64 2]) [some (.cells [.int .i64 wi, .slo 1 0 nl 0] none), some (.cells ls (some 3)), some (.cells [.int .u64 0, .bool false, .int .i64 0] none)] [])
   else (
    bif xnn a then
    bif xle (xadd (xnat a) 1) nl then
    bif xle (xadd (xix 0 (xnat a) 3) 3) (xln ls) then
    bif isI .u64 (nthD ls (xix 0 (xnat a) 3)) then
    bif isB (nthD ls (xadd (xix 0 (xnat a) 3) 1)) then
    bif isI .i64 (nthD ls (xadd (xadd (xix 0 (xnat a) 3) 1) 1)) then
    K (.tup [.agg [.int .u64 (asI (nthD ls (xix 0 (xnat a) 3))), .bool (asB (nthD ls (xadd (xix 0 (xnat a) 3) 1))), .int .i64 (asI (nthD ls (xadd (xadd (xix 0 (xnat a) 3) 1) 1)))], .int .i64 0]) [some (.cells [.int .i64 wi, .slo 1 0 nl 0] none), some (.cells ls (some 3)), some (.cells [.int .u64 (asI (nthD ls (xix 0 (xnat a) 3))), .bool (asB (nthD ls (xadd (xix 0 (xnat a) 3) 1))), .int .i64 (asI (nthD ls (xadd (xadd (xix 0 (xnat a) 3) 1) 1)))] none)] []
    else False
    else False
    else False
    else False
    else False
    else False))
  else (
   K (.tup [.agg [.int .u64 0, .bool false, .int .i64 0], .int .i64 2]) [some (.cells [.int .i64 wi, .slo 1 0 nl 0] none), some (.cells ls (some 3)), some (.cells [.int .u64 0, .bool false, .int .i64 0] none)] [])) := by kernel_rfl
theorem tst_x (a lv : Int) (lh : Bool) (lo wi : Int) (nl : Nat) (ls : List LV) (K : Fk) : (xfun Go.Proofs.Try.prog (fun _ => none) 40 29 [.ptr 0 0, .int .i64 a, .agg [.int .u64 lv, .bool lh, .int .i64 lo]] (mkS (tS wi nl ls)) (vF K)) = (
  bif xcm .geq a 0 then (
   bif xnot (xcm .lss a ↑nl) then (
    K (.int .i64 2) [some (.cells [.int .i64 wi, .slo 1 0 nl 0] none), some (.cells ls (some 3)), some (.cells [.int .u64 lv, .bool lh, .int .i64 lo] none), some (.cells [.int .u64 lv, .bool lh, .int .i64 lo] none)] [])
   else (
    bif xcm .geq lv 4611686018427387904 then (
     K (.int .i64 1) [some (.cells [.int .i64 wi, .slo 1 0 nl 0] none), some (.cells ls (some 3)), some (.cells [.int .u64 lv, .bool lh, .int .i64 lo] none), some (.cells [.int .u64 lv, .bool lh, .int .i64 lo] none), some (.cells [.int .u64 lv, .bool lh, .int .i64 lo] none)] [])
    else (
     bif lh then (
      bif xcm .geq lo 0 then (
       bif xnot (xcm .lss lo 4) then (
        K (.int .i64 1) [some (.cells [.int .i64 wi, .slo 1 0 nl 0] none), some (.cells ls (some 3)), some (.cells [.int .u64 lv, .bool lh, .int .i64 lo] none), some (.cells [.int .u64 lv, .bool lh, .int .i64 lo] none), some (.cells [.int .u64 lv, .bool lh, .int .i64 lo] none)] [])
       else (
        bif xnn a then
        bif xle (xadd (xnat a) 1) nl then
        bif xle (xadd (xix 0 (xnat a) 3) 3) (xln ls) then
        K (.int .i64 0) [some (.cells [.int .i64 wi, .slo 1 0 nl 0] none), some (.cells (xlay ls (xix 0 (xnat a) 3) [.int .u64 lv, .bool lh, .int .i64 lo]) (some 3)), some (.cells [.int .u64 lv, .bool lh, .int .i64 lo] none), some (.cells [.int .u64 lv, .bool lh, .int .i64 lo] none), some (.cells [.int .u64 lv, .bool lh, .int .i64 lo] none)] []
        else False
        else False
        else False))
      else (
       K (.int .i64 1) [some (.cells [.int .i64 wi, .slo 1 0 nl 0] none), some (.cells ls (some 3)), some (.cells [.int .u64 lv, .bool lh, .int .i64 lo] none), some (.cells [.int .u64 lv, .bool lh, .int .i64 lo] none), some (.cells [.int .u64 lv, .bool lh, .int .i64 lo] none)] []))
     else (
      bif xnot (xcm .eql lo 0) then (
       K (.int .i64 1) [some (.cells [.int .i64 wi, .slo 1 0 nl 0] none), some (.cells ls (some 3)), some (.cells [.int .u64 lv, .bool lh, .int .i64 lo] none), some (.cells [.int .u64 lv, .bool lh, .int .i64 lo] none), some (.cells [.int .u64 lv, .bool lh, .int .i64 lo] none)] [])
      else (
       bif xnn a then
       bif xle (xadd (xnat a) 1) nl then
       bif xle (xadd (xix 0 (xnat a) 3) 3) (xln ls) then
       K (.int .i64 0) [some (.cells [.int .i64 wi, .slo 1 0 nl 0] none), some (.cells (xlay ls (xix 0 (xnat a) 3) [.int .u64 lv, .bool lh, .int .i64 lo]) (some 3)), some (.cells [.int .u64 lv, .bool lh, .int .i64 lo] none), some (.cells [.int .u64 lv, .bool lh, .int .i64 lo] none), some (.cells [.int .u64 lv, .bool lh, .int .i64 lo] none)] []
       else False
       else False
       else False)))))
  else (
   K (.int .i64 2) [some (.cells [.int .i64 wi, .slo 1 0 nl 0] none), some (.cells ls (some 3)), some (.cells [.int .u64 lv, .bool lh, .int .i64 lo] none), some (.cells [.int .u64 lv, .bool lh, .int .i64 lo] none)] [])) := by kernel_rfl
theorem tcs_x (a wv : Int) (wh : Bool) (wo lv : Int) (lh : Bool) (lo wi : Int) (nl : Nat) (ls : List LV) (K : Fk) : (xfun Go.Proofs.Try.prog (fun _ => none) 40 10 [.ptr 0 0, .int .i64 a, .agg [.int .u64 wv, .bool wh, .int .i64 wo], .agg [.int .u64 lv, .bool lh, .int .i64 lo]] (mkS (tS wi nl ls)) (vF K)) = (
  bif xcm .geq a 0 then (
   bif xnot (xcm .lss a ↑nl) then (
    K (.tup [.bool false, .int .i64 2]) [some (.cells [.int .i64 wi, .slo 1 0 nl 0] none), some (.cells ls (some 3)), some (.cells [.int .u64 wv, .bool wh, .int .i64 wo] none), some (.cells [.int .u64 lv, .bool lh, .int .i64 lo] none), some (.cells [.int .u64 lv, .bool lh, .int .i64 lo] none)] [])
   else (
    bif xcm .geq lv 4611686018427387904 then (
     K (.tup [.bool false, .int .i64 1]) [some (.cells [.int .i64 wi, .slo 1 0 nl 0] none), some (.cells ls (some 3)), some (.cells [.int .u64 wv, .bool wh, .int .i64 wo] none), some (.cells [.int .u64 lv, .bool lh, .int .i64 lo] none), some (.cells [.int .u64 lv, .bool lh, .int .i64 lo] none), some (.cells [.int .u64 lv, .bool lh, .int .i64 lo] none)] [])
    else (
     bif lh then (
      bif xcm .geq lo 0 then (
       bif xnot (xcm .lss lo 4) then (
        K (.tup [.bool false, .int .i64 1]) [some (.cells [.int .i64 wi, .slo 1 0 nl 0] none), some (.cells ls (some 3)), some (.cells [.int .u64 wv, .bool wh, .int .i64 wo] none), some (.cells [.int .u64 lv, .bool lh, .int .i64 lo] none), some (.cells [.int .u64 lv, .bool lh, .int .i64 lo] none), some (.cells [.int .u64 lv, .bool lh, .int .i64 lo] none)] [])
       else (
        bif xnn a then
        bif xle (xadd (xnat a) 1) nl then
        bif xle (xadd (xix 0 (xnat a) 3) 3) (xln ls) then
        bif isI .u64 (nthD ls (xix 0 (xnat a) 3)) then
        bif isB (nthD ls (xadd (xix 0 (xnat a) 3) 1)) then
        bif isI .i64 (nthD ls (xadd (xadd (xix 0 (xnat a) 3) 1) 1)) then
        bif xnot (xand (xcm .eql (asI (nthD ls (xix 0 (xnat a) 3))) wv) (xand (xbq (asB (nthD ls (xadd (xix 0 (xnat a) 3) 1))) wh) (xand (xcm .eql (asI (nthD ls (xadd (xadd (xix 0 (xnat a) 3) 1) 1))) wo) true))) then (
         K (.tup [.bool false, .int .i64 0]) [some (.cells [.int .i64 wi, .slo 1 0 nl 0] none), some (.cells ls (some 3)), some (.cells [.int .u64 wv, .bool wh, .int .i64 wo] none), some (.cells [.int .u64 lv, .bool lh, .int .i64 lo] none), some (.cells [.int .u64 lv, .bool lh, .int .i64 lo] none), some (.cells [.int .u64 lv, .bool lh, .int .i64 lo] none)] [])
        else (
         bif xnn a then
         bif xle (xadd (xnat a) 1) nl then
         bif xle (xadd (xix 0 (xnat a) 3) 3) (xln ls) then
         K (.tup [.bool true, .int .i64 0]) [some (.cells [.int .i64 wi, .slo 1 0 nl 0] none), some (.cells (xlay ls (xix 0 (xnat a) 3) [.int .u64 lv, .bool lh, .int .i64 lo]) (some 3)), some (.cells [.int .u64 wv, .bool wh, .int .i64 wo] none), some (.cells [.int .u64 lv, .bool lh, .int .i64 lo] none), some (.cells [.int .u64 lv, .bool lh, .int .i64 lo] none), some (.cells [.int .u64 lv, .bool lh, .int .i64 lo] none)] []
         else False
         else False
         else False)
        else False
        else False
        else False
        else False
        else False
        else False))
      else (
       K (.tup [.bool false, .int .i64 1]) [some (.cells [.int .i64 wi, .slo 1 0 nl 0] none), some (.cells ls (some 3)), some (.cells [.int .u64 wv, .bool wh, .int .i64 wo] none), some (.cells [.int .u64 lv, .bool lh, .int .i64 lo] none), some (.cells [.int .u64 lv, .bool lh, .int .i64 lo] none), some (.cells [.int .u64 lv, .bool lh, .int .i64 lo] none)] []))
     else (
      bif xnot (xcm .eql lo 0) then (
       K (.tup [.bool false, .int .i64 1]) [some (.cells [.int .i64 wi, .slo 1 0 nl 0] none), some (.cells ls (some 3)), some (.cells [.int .u64 wv, .bool wh, .int .i64 wo] none), some (.cells [.int .u64 lv, .bool lh, .int .i64 lo] none), some (.cells [.int .u64 lv, .bool lh, .int .i64 lo] none), some (.cells [.int .u64 lv, .bool lh, .int .i64 lo] none)] [])
      else (
       bif xnn a then
       bif xle (xadd (xnat a) 1) nl then
       bif xle (xadd (xix 0 (xnat a) 3) 3) (xln ls) then
       bif isI .u64 (nthD ls (xix 0 (xnat a) 3)) then
       bif isB (nthD ls (xadd (xix 0 (xnat a) 3) 1)) then
       bif isI .i64 (nthD ls (xadd (xadd (xix 0 (xnat a) 3) 1) 1)) then
       bif xnot (xand (xcm .eql (asI (nthD ls (xix 0 (xnat a) 3))) wv) (xand (xbq (asB (nthD ls (xadd (xix 0 (xnat a) 3) 1))) wh) (xand (xcm .eql (asI (nthD ls (xadd (xadd (xix 0 (xnat a) 3) 1) 1))) wo) true))) then (
        K (.tup [.bool false, .int .i64 0]) [some (.cells [.int .i64 wi, .slo 1 0 nl 0] none), some (.cells ls (some 3)), some (.cells [.int .u64 wv, .bool wh, .int .i64 wo] none), some (.cells [.int .u64 lv, .bool lh, .int .i64 lo] none), some (.cells [.int .u64 lv, .bool lh, .int .i64 lo] none), some (.cells [.int .u64 lv, .bool lh, .int .i64 lo] none)] [])
       else (
        bif xnn a then
        bif xle (xadd (xnat a) 1) nl then
        bif xle (xadd (xix 0 (xnat a) 3) 3) (xln ls) then
        K (.tup [.bool true, .int .i64 0]) [some (.cells [.int .i64 wi, .slo 1 0 nl 0] none), some (.cells (xlay ls (xix 0 (xnat a) 3) [.int .u64 lv, .bool lh, .int .i64 lo]) (some 3)), some (.cells [.int .u64 wv, .bool wh, .int .i64 wo] none), some (.cells [.int .u64 lv, .bool lh, .int .i64 lo] none), some (.cells [.int .u64 lv, .bool lh, .int .i64 lo] none), some (.cells [.int .u64 lv, .bool lh, .int .i64 lo] none)] []
        else False
        else False
        else False)
       else False
       else False
       else False
       else False
       else False
       else False)))))
  else (
   K (.tup [.bool false, .int .i64 2]) [some (.cells [.int .i64 wi, .slo 1 0 nl 0] none), some (.cells ls (some 3)), some (.cells [.int .u64 wv, .bool wh, .int .i64 wo] none), some (.cells [.int .u64 lv, .bool lh, .int .i64 lo] none), some (.cells [.int .u64 lv, .bool lh, .int .i64 lo] none)] [])) := by kernel_rfl
theorem tld_ok (a wi : Int) (L : List Lk) (hL : L.length ≤ 1000000) : SFun Go.Proofs.Try.prog 11 [.ptr 0 0, .int .i64 a] (mkS (tS wi L.length (encL cL L)))
    fun l s => l = .tup [.agg [.int .u64 (vV (encL cL L) L.length a), .bool (vH (encL cL L) L.length a), .int .i64 (vO (encL cL L) L.length a)], .int .i64 (vE L.length a)] ∧ s = mkS (tS wi L.length (encL cL L)) := by
  refine SFun.mono (SFun.vc (Q := fun l b => l = .tup [.agg [.int .u64 (vV (encL cL L) L.length a), .bool (vH (encL cL L) L.length a), .int .i64 (vO (encL cL L) L.length a)], .int .i64 (vE L.length a)] ∧ b = tS wi L.length (encL cL L)) noCx_ok (n := 40) 2 rfl ?_) fun l s' ⟨b0, ⟨h1, h2⟩, h3⟩ => ⟨h1, by rw [h3, h2]⟩
  have nx := noids_l L
  rw [tld_x]
  by_cases h : 0 ≤ a ∧ a < L.length
  · obtain ⟨q, rfl⟩ := Int.eq_ofNat_of_zero_le h.1
    have hq : q < L.length := by omega
    have e : atL (encL cL L) L.length (q : Int) = L[q] := by simp only [atL, inL, h, and_self, if_true, decL_enc, Int.toNat_natCast, getD_at hq]
    have e2 : vE L.length (q : Int) = 0 := by simp only [vE, inL, h, and_self, if_true]
    simp only [wd_nat, wd_asV, wd_isV, wd_ix, wd_add, wd_mul, wd_ln, Nat.zero_add, Nat.mul_one, wd_isI, wd_asI, wd_isB, wd_asB, wd_nn, cI_tlen, cB_tlen, cII_tlen, decide_true, cond_true, wd_not_t, wd_not_f, wd_and_t, wd_and_f, lk_0 hq, lk_1 hq, lk_2' hq, lk_n, nt_lss, nt_eql]
    (repeat (first | (with_reducible refine way_t (by (first | with_reducible rfl | exact t_le (by omega) | exact t_eq (by omega) | exact t_nn (by omega) | exact t_lss (by omega) | exact t_leq (by omega) | exact t_gtr (by omega) | exact t_geq (by omega) | exact t_eql (by omega) | exact t_neq (by omega) | exact t_z (by omega) | exact wd_not_f | assumption)) ?_) | (with_reducible refine way_f (by (first | with_reducible rfl | exact f_le (by omega) | exact f_eq (by omega) | exact f_nn (by omega) | exact f_lss (by omega) | exact f_leq (by omega) | exact f_gtr (by omega) | exact f_geq (by omega) | exact f_eql (by omega) | exact f_neq (by omega) | exact f_z (by omega) | exact wd_not_t | assumption)) ?_)))
    exact ⟨rfl, _, _, [.id 0, .id 1], ⟨rfl, rfl⟩, by simp only [vV, vH, vO, e, e2]; (refine ⟨by kernel_rfl, ?_, ?_⟩ <;> repeat (first | exact okTms_nil | refine okTms_cons ?_ ?_ | exact okBlks_nil | refine okBlks_cons ?_ ?_ | exact lws_nil | refine lws_cons ?_ ?_ | exact lb_dead | exact lb_same (by (first | assumption | exact noIds_encL (fun _ => rfl) _ | exact noIds_tab (fun _ => rfl) _ _ | rfl)) | exact lb_ro (by (first | assumption | exact noIds_encL (fun _ => rfl) _ | exact noIds_tab (fun _ => rfl) _ _ | rfl)) | exact lb_none | refine lb_cells ?_ (by simp) | exact lb_cap (Nat.le_refl _) (Nat.le_refl _) rfl rfl | exact lb_capn (by assumption) (by (first | assumption | exact noIds_encL (fun _ => rfl) _ | exact noIds_tab (fun _ => rfl) _ _ | rfl)) | exact lw_any | exact lw_int | exact lw_bool | exact lw_ptr rfl | exact lw_slo rfl | exact lw_nils | exact lw_slo_nils | exact lw_sl rfl | exact lw_noid rfl | exact lw_cap rfl (Nat.le_refl _) | refine lw_tup ?_ | refine lw_agg ?_ | assumption))⟩
  · have e : atL (encL cL L) L.length a = (0, false, 0) := by simp only [atL, inL, h, if_false]
    have e2 : vE L.length a = 2 := by simp only [vE, inL, h, if_false]
    by_cases h1 : a < 0
    · (try simp only [nt_lss, nt_eql])
      (repeat (first | (with_reducible refine way_t (by (first | with_reducible rfl | exact t_le (by omega) | exact t_eq (by omega) | exact t_nn (by omega) | exact t_lss (by omega) | exact t_leq (by omega) | exact t_gtr (by omega) | exact t_geq (by omega) | exact t_eql (by omega) | exact t_neq (by omega) | exact t_z (by omega) | exact wd_not_f | assumption)) ?_) | (with_reducible refine way_f (by (first | with_reducible rfl | exact f_le (by omega) | exact f_eq (by omega) | exact f_nn (by omega) | exact f_lss (by omega) | exact f_leq (by omega) | exact f_gtr (by omega) | exact f_geq (by omega) | exact f_eql (by omega) | exact f_neq (by omega) | exact f_z (by omega) | exact wd_not_t | assumption)) ?_)))
      exact ⟨rfl, _, _, [.id 0, .id 1], ⟨rfl, rfl⟩, by simp only [vV, vH, vO, e, e2]; (refine ⟨by kernel_rfl, ?_, ?_⟩ <;> repeat (first | exact okTms_nil | refine okTms_cons ?_ ?_ | exact okBlks_nil | refine okBlks_cons ?_ ?_ | exact lws_nil | refine lws_cons ?_ ?_ | exact lb_dead | exact lb_same (by (first | assumption | exact noIds_encL (fun _ => rfl) _ | exact noIds_tab (fun _ => rfl) _ _ | rfl)) | exact lb_ro (by (first | assumption | exact noIds_encL (fun _ => rfl) _ | exact noIds_tab (fun _ => rfl) _ _ | rfl)) | exact lb_none | refine lb_cells ?_ (by simp) | exact lb_cap (Nat.le_refl _) (Nat.le_refl _) rfl rfl | exact lb_capn (by assumption) (by (first | assumption | exact noIds_encL (fun _ => rfl) _ | exact noIds_tab (fun _ => rfl) _ _ | rfl)) | exact lw_any | exact lw_int | exact lw_bool | exact lw_ptr rfl | exact lw_slo rfl | exact lw_nils | exact lw_slo_nils | exact lw_sl rfl | exact lw_noid rfl | exact lw_cap rfl (Nat.le_refl _) | refine lw_tup ?_ | refine lw_agg ?_ | assumption))⟩
    · (try simp only [nt_lss, nt_eql])
      (repeat (first | (with_reducible refine way_t (by (first | with_reducible rfl | exact t_le (by omega) | exact t_eq (by omega) | exact t_nn (by omega) | exact t_lss (by omega) | exact t_leq (by omega) | exact t_gtr (by omega) | exact t_geq (by omega) | exact t_eql (by omega) | exact t_neq (by omega) | exact t_z (by omega) | exact wd_not_f | assumption)) ?_) | (with_reducible refine way_f (by (first | with_reducible rfl | exact f_le (by omega) | exact f_eq (by omega) | exact f_nn (by omega) | exact f_lss (by omega) | exact f_leq (by omega) | exact f_gtr (by omega) | exact f_geq (by omega) | exact f_eql (by omega) | exact f_neq (by omega) | exact f_z (by omega) | exact wd_not_t | assumption)) ?_)))
      exact ⟨rfl, _, _, [.id 0, .id 1], ⟨rfl, rfl⟩, by simp only [vV, vH, vO, e, e2]; (refine ⟨by kernel_rfl, ?_, ?_⟩ <;> repeat (first | exact okTms_nil | refine okTms_cons ?_ ?_ | exact okBlks_nil | refine okBlks_cons ?_ ?_ | exact lws_nil | refine lws_cons ?_ ?_ | exact lb_dead | exact lb_same (by (first | assumption | exact noIds_encL (fun _ => rfl) _ | exact noIds_tab (fun _ => rfl) _ _ | rfl)) | exact lb_ro (by (first | assumption | exact noIds_encL (fun _ => rfl) _ | exact noIds_tab (fun _ => rfl) _ _ | rfl)) | exact lb_none | refine lb_cells ?_ (by simp) | exact lb_cap (Nat.le_refl _) (Nat.le_refl _) rfl rfl | exact lb_capn (by assumption) (by (first | assumption | exact noIds_encL (fun _ => rfl) _ | exact noIds_tab (fun _ => rfl) _ _ | rfl)) | exact lw_any | exact lw_int | exact lw_bool | exact lw_ptr rfl | exact lw_slo rfl | exact lw_nils | exact lw_slo_nils | exact lw_sl rfl | exact lw_noid rfl | exact lw_cap rfl (Nat.le_refl _) | refine lw_tup ?_ | refine lw_agg ?_ | assumption))⟩
theorem tst_ok (a lv : Int) (lh : Bool) (lo wi : Int) (L : List Lk) (hL : L.length ≤ 1000000) : SFun Go.Proofs.Try.prog 29 [.ptr 0 0, .int .i64 a, .agg [.int .u64 lv, .bool lh, .int .i64 lo]] (mkS (tS wi L.length (encL cL L)))
    fun l s => l = .int .i64 (vQ L.length a lv lh lo) ∧ s = mkS (tS wi L.length (vS (encL cL L) L.length a lv lh lo)) := by
  refine SFun.mono (SFun.vc (Q := fun l b => l = .int .i64 (vQ L.length a lv lh lo) ∧ b = tS wi L.length (vS (encL cL L) L.length a lv lh lo)) noCx_ok (n := 40) 2 rfl ?_) fun l s' ⟨b0, ⟨h1, h2⟩, h3⟩ => ⟨h1, by rw [h3, h2]⟩
  have nx := noids_l L
  rw [tst_x]
  by_cases h : 0 ≤ a ∧ a < L.length
  · obtain ⟨q, rfl⟩ := Int.eq_ofNat_of_zero_le h.1
    have hq : q < L.length := by omega
    have st := lk_set hq (lv, lh, lo)
    dsimp only at st
    rcases isLk_cases lv lh lo with ⟨hl, hv, ⟨rfl, ho, ho2⟩ | ⟨rfl, ho⟩⟩ | ⟨hl, hv | ⟨hv, rfl, ho⟩ | ⟨hv, rfl, ho⟩ | ⟨hv, rfl, ho⟩ | ⟨hv, rfl, ho⟩⟩
    all_goals
      simp only [wd_nat, wd_asV, wd_isV, wd_ix, wd_add, wd_mul, wd_ln, Nat.zero_add, Nat.mul_one, wd_isI, wd_asI, wd_isB, wd_asB, wd_nn, cI_tlen, cB_tlen, cII_tlen, decide_true, cond_true, wd_not_t, wd_not_f, wd_and_t, wd_and_f, lk_n, nt_lss, nt_eql, cond_false, st]
      (repeat (first | (with_reducible refine way_t (by (first | with_reducible rfl | exact t_le (by omega) | exact t_eq (by omega) | exact t_nn (by omega) | exact t_lss (by omega) | exact t_leq (by omega) | exact t_gtr (by omega) | exact t_geq (by omega) | exact t_eql (by omega) | exact t_neq (by omega) | exact t_z (by omega) | exact wd_not_f | assumption)) ?_) | (with_reducible refine way_f (by (first | with_reducible rfl | exact f_le (by omega) | exact f_eq (by omega) | exact f_nn (by omega) | exact f_lss (by omega) | exact f_leq (by omega) | exact f_gtr (by omega) | exact f_geq (by omega) | exact f_eql (by omega) | exact f_neq (by omega) | exact f_z (by omega) | exact wd_not_t | assumption)) ?_)))
      refine ⟨rfl, _, _, [.id 0, .id 1], ⟨rfl, rfl⟩, ?_⟩
      simp only [vQ, vS, inL, h, hl, and_self, if_true, and_true, true_and, decL_enc, Int.toNat_natCast, Bool.false_eq_true, and_false, if_false]
      (refine ⟨by kernel_rfl, ?_, ?_⟩ <;> repeat (first | exact okTms_nil | refine okTms_cons ?_ ?_ | exact okBlks_nil | refine okBlks_cons ?_ ?_ | exact lws_nil | refine lws_cons ?_ ?_ | exact lb_dead | exact lb_same (by (first | assumption | exact noIds_encL (fun _ => rfl) _ | exact noIds_tab (fun _ => rfl) _ _ | rfl)) | exact lb_ro (by (first | assumption | exact noIds_encL (fun _ => rfl) _ | exact noIds_tab (fun _ => rfl) _ _ | rfl)) | exact lb_none | refine lb_cells ?_ (by simp) | exact lb_cap (Nat.le_refl _) (Nat.le_refl _) rfl rfl | exact lb_capn (by assumption) (by (first | assumption | exact noIds_encL (fun _ => rfl) _ | exact noIds_tab (fun _ => rfl) _ _ | rfl)) | exact lw_any | exact lw_int | exact lw_bool | exact lw_ptr rfl | exact lw_slo rfl | exact lw_nils | exact lw_slo_nils | exact lw_sl rfl | exact lw_noid rfl | exact lw_cap rfl (Nat.le_refl _) | refine lw_tup ?_ | refine lw_agg ?_ | assumption))
  · have e : ∀ p : Prop, ¬ ((0 ≤ a ∧ a < L.length) ∧ p) := fun p hp => h hp.1
    by_cases h1 : a < 0
    · (try simp only [nt_lss, nt_eql])
      (repeat (first | (with_reducible refine way_t (by (first | with_reducible rfl | exact t_le (by omega) | exact t_eq (by omega) | exact t_nn (by omega) | exact t_lss (by omega) | exact t_leq (by omega) | exact t_gtr (by omega) | exact t_geq (by omega) | exact t_eql (by omega) | exact t_neq (by omega) | exact t_z (by omega) | exact wd_not_f | assumption)) ?_) | (with_reducible refine way_f (by (first | with_reducible rfl | exact f_le (by omega) | exact f_eq (by omega) | exact f_nn (by omega) | exact f_lss (by omega) | exact f_leq (by omega) | exact f_gtr (by omega) | exact f_geq (by omega) | exact f_eql (by omega) | exact f_neq (by omega) | exact f_z (by omega) | exact wd_not_t | assumption)) ?_)))
      exact ⟨rfl, _, _, [.id 0, .id 1], ⟨rfl, rfl⟩, by simp only [vQ, vS, inL, h, if_false, false_and]; (refine ⟨by kernel_rfl, ?_, ?_⟩ <;> repeat (first | exact okTms_nil | refine okTms_cons ?_ ?_ | exact okBlks_nil | refine okBlks_cons ?_ ?_ | exact lws_nil | refine lws_cons ?_ ?_ | exact lb_dead | exact lb_same (by (first | assumption | exact noIds_encL (fun _ => rfl) _ | exact noIds_tab (fun _ => rfl) _ _ | rfl)) | exact lb_ro (by (first | assumption | exact noIds_encL (fun _ => rfl) _ | exact noIds_tab (fun _ => rfl) _ _ | rfl)) | exact lb_none | refine lb_cells ?_ (by simp) | exact lb_cap (Nat.le_refl _) (Nat.le_refl _) rfl rfl | exact lb_capn (by assumption) (by (first | assumption | exact noIds_encL (fun _ => rfl) _ | exact noIds_tab (fun _ => rfl) _ _ | rfl)) | exact lw_any | exact lw_int | exact lw_bool | exact lw_ptr rfl | exact lw_slo rfl | exact lw_nils | exact lw_slo_nils | exact lw_sl rfl | exact lw_noid rfl | exact lw_cap rfl (Nat.le_refl _) | refine lw_tup ?_ | refine lw_agg ?_ | assumption))⟩
    · (try simp only [nt_lss, nt_eql])
      (repeat (first | (with_reducible refine way_t (by (first | with_reducible rfl | exact t_le (by omega) | exact t_eq (by omega) | exact t_nn (by omega) | exact t_lss (by omega) | exact t_leq (by omega) | exact t_gtr (by omega) | exact t_geq (by omega) | exact t_eql (by omega) | exact t_neq (by omega) | exact t_z (by omega) | exact wd_not_f | assumption)) ?_) | (with_reducible refine way_f (by (first | with_reducible rfl | exact f_le (by omega) | exact f_eq (by omega) | exact f_nn (by omega) | exact f_lss (by omega) | exact f_leq (by omega) | exact f_gtr (by omega) | exact f_geq (by omega) | exact f_eql (by omega) | exact f_neq (by omega) | exact f_z (by omega) | exact wd_not_t | assumption)) ?_)))
      exact ⟨rfl, _, _, [.id 0, .id 1], ⟨rfl, rfl⟩, by simp only [vQ, vS, inL, h, if_false, false_and]; (refine ⟨by kernel_rfl, ?_, ?_⟩ <;> repeat (first | exact okTms_nil | refine okTms_cons ?_ ?_ | exact okBlks_nil | refine okBlks_cons ?_ ?_ | exact lws_nil | refine lws_cons ?_ ?_ | exact lb_dead | exact lb_same (by (first | assumption | exact noIds_encL (fun _ => rfl) _ | exact noIds_tab (fun _ => rfl) _ _ | rfl)) | exact lb_ro (by (first | assumption | exact noIds_encL (fun _ => rfl) _ | exact noIds_tab (fun _ => rfl) _ _ | rfl)) | exact lb_none | refine lb_cells ?_ (by simp) | exact lb_cap (Nat.le_refl _) (Nat.le_refl _) rfl rfl | exact lb_capn (by assumption) (by (first | assumption | exact noIds_encL (fun _ => rfl) _ | exact noIds_tab (fun _ => rfl) _ _ | rfl)) | exact lw_any | exact lw_int | exact lw_bool | exact lw_ptr rfl | exact lw_slo rfl | exact lw_nils | exact lw_slo_nils | exact lw_sl rfl | exact lw_noid rfl | exact lw_cap rfl (Nat.le_refl _) | refine lw_tup ?_ | refine lw_agg ?_ | assumption))⟩
theorem tcs_ok (a wv : Int) (wh : Bool) (wo lv : Int) (lh : Bool) (lo wi : Int) (L : List Lk) (hL : L.length ≤ 1000000) : SFun Go.Proofs.Try.prog 10 [.ptr 0 0, .int .i64 a, .agg [.int .u64 wv, .bool wh, .int .i64 wo], .agg [.int .u64 lv, .bool lh, .int .i64 lo]] (mkS (tS wi L.length (encL cL L)))
    fun l s => l = .tup [.bool (vD (encL cL L) L.length a wv wh wo lv lh lo), .int .i64 (vQ L.length a lv lh lo)] ∧ s = mkS (tS wi L.length (vX (encL cL L) L.length a wv wh wo lv lh lo)) := by
  refine SFun.mono (SFun.vc (Q := fun l b => l = .tup [.bool (vD (encL cL L) L.length a wv wh wo lv lh lo), .int .i64 (vQ L.length a lv lh lo)] ∧ b = tS wi L.length (vX (encL cL L) L.length a wv wh wo lv lh lo)) noCx_ok (n := 40) 2 rfl ?_) fun l s' ⟨b0, ⟨h1, h2⟩, h3⟩ => ⟨h1, by rw [h3, h2]⟩
  have nx := noids_l L
  rw [tcs_x]
  by_cases h : 0 ≤ a ∧ a < L.length
  · obtain ⟨q, rfl⟩ := Int.eq_ofNat_of_zero_le h.1
    have hq : q < L.length := by omega
    have st := lk_set hq (lv, lh, lo)
    dsimp only at st
    have ea : atL (encL cL L) L.length (q : Int) = L[q] := by simp only [atL, inL, h, and_self, if_true, decL_enc, Int.toNat_natCast, getD_at hq]
    rcases isLk_cases lv lh lo with ⟨hl, hv, ⟨rfl, ho, ho2⟩ | ⟨rfl, ho⟩⟩ | ⟨hl, hv | ⟨hv, rfl, ho⟩ | ⟨hv, rfl, ho⟩ | ⟨hv, rfl, ho⟩ | ⟨hv, rfl, ho⟩⟩
    all_goals
      by_cases hw : L[q] = (wv, wh, wo)
      · simp only [wd_nat, wd_asV, wd_isV, wd_ix, wd_add, wd_mul, wd_ln, Nat.zero_add, Nat.mul_one, wd_isI, wd_asI, wd_isB, wd_asB, wd_nn, cI_tlen, cB_tlen, cII_tlen, decide_true, cond_true, wd_not_t, wd_not_f, wd_and_t, wd_and_f, lk_0 hq, lk_1 hq, lk_2' hq, lk_n, nt_lss, nt_eql, lkEq, decide_eq_true hw, wd_not_t, cond_false, st]
        (repeat (first | (with_reducible refine way_t (by (first | with_reducible rfl | exact t_le (by omega) | exact t_eq (by omega) | exact t_nn (by omega) | exact t_lss (by omega) | exact t_leq (by omega) | exact t_gtr (by omega) | exact t_geq (by omega) | exact t_eql (by omega) | exact t_neq (by omega) | exact t_z (by omega) | exact wd_not_f | assumption)) ?_) | (with_reducible refine way_f (by (first | with_reducible rfl | exact f_le (by omega) | exact f_eq (by omega) | exact f_nn (by omega) | exact f_lss (by omega) | exact f_leq (by omega) | exact f_gtr (by omega) | exact f_geq (by omega) | exact f_eql (by omega) | exact f_neq (by omega) | exact f_z (by omega) | exact wd_not_t | assumption)) ?_)))
        refine ⟨rfl, _, _, [.id 0, .id 1], ⟨rfl, rfl⟩, ?_⟩
        simp only [vQ, vX, vD, inL, h, hl, ea, hw, and_self, if_true, and_true, true_and, decL_enc, Int.toNat_natCast, Bool.false_eq_true, and_false, false_and, if_false, decide_true, decide_false]
        (refine ⟨by kernel_rfl, ?_, ?_⟩ <;> repeat (first | exact okTms_nil | refine okTms_cons ?_ ?_ | exact okBlks_nil | refine okBlks_cons ?_ ?_ | exact lws_nil | refine lws_cons ?_ ?_ | exact lb_dead | exact lb_same (by (first | assumption | exact noIds_encL (fun _ => rfl) _ | exact noIds_tab (fun _ => rfl) _ _ | rfl)) | exact lb_ro (by (first | assumption | exact noIds_encL (fun _ => rfl) _ | exact noIds_tab (fun _ => rfl) _ _ | rfl)) | exact lb_none | refine lb_cells ?_ (by simp) | exact lb_cap (Nat.le_refl _) (Nat.le_refl _) rfl rfl | exact lb_capn (by assumption) (by (first | assumption | exact noIds_encL (fun _ => rfl) _ | exact noIds_tab (fun _ => rfl) _ _ | rfl)) | exact lw_any | exact lw_int | exact lw_bool | exact lw_ptr rfl | exact lw_slo rfl | exact lw_nils | exact lw_slo_nils | exact lw_sl rfl | exact lw_noid rfl | exact lw_cap rfl (Nat.le_refl _) | refine lw_tup ?_ | refine lw_agg ?_ | assumption))
      · simp only [wd_nat, wd_asV, wd_isV, wd_ix, wd_add, wd_mul, wd_ln, Nat.zero_add, Nat.mul_one, wd_isI, wd_asI, wd_isB, wd_asB, wd_nn, cI_tlen, cB_tlen, cII_tlen, decide_true, cond_true, wd_not_t, wd_not_f, wd_and_t, wd_and_f, lk_0 hq, lk_1 hq, lk_2' hq, lk_n, nt_lss, nt_eql, lkEq, decide_eq_false hw, wd_not_f, cond_false, st]
        (repeat (first | (with_reducible refine way_t (by (first | with_reducible rfl | exact t_le (by omega) | exact t_eq (by omega) | exact t_nn (by omega) | exact t_lss (by omega) | exact t_leq (by omega) | exact t_gtr (by omega) | exact t_geq (by omega) | exact t_eql (by omega) | exact t_neq (by omega) | exact t_z (by omega) | exact wd_not_f | assumption)) ?_) | (with_reducible refine way_f (by (first | with_reducible rfl | exact f_le (by omega) | exact f_eq (by omega) | exact f_nn (by omega) | exact f_lss (by omega) | exact f_leq (by omega) | exact f_gtr (by omega) | exact f_geq (by omega) | exact f_eql (by omega) | exact f_neq (by omega) | exact f_z (by omega) | exact wd_not_t | assumption)) ?_)))
        refine ⟨rfl, _, _, [.id 0, .id 1], ⟨rfl, rfl⟩, ?_⟩
        simp only [vQ, vX, vD, inL, h, hl, ea, hw, and_self, if_true, and_true, true_and, decL_enc, Int.toNat_natCast, Bool.false_eq_true, and_false, false_and, if_false, decide_true, decide_false]
        (refine ⟨by kernel_rfl, ?_, ?_⟩ <;> repeat (first | exact okTms_nil | refine okTms_cons ?_ ?_ | exact okBlks_nil | refine okBlks_cons ?_ ?_ | exact lws_nil | refine lws_cons ?_ ?_ | exact lb_dead | exact lb_same (by (first | assumption | exact noIds_encL (fun _ => rfl) _ | exact noIds_tab (fun _ => rfl) _ _ | rfl)) | exact lb_ro (by (first | assumption | exact noIds_encL (fun _ => rfl) _ | exact noIds_tab (fun _ => rfl) _ _ | rfl)) | exact lb_none | refine lb_cells ?_ (by simp) | exact lb_cap (Nat.le_refl _) (Nat.le_refl _) rfl rfl | exact lb_capn (by assumption) (by (first | assumption | exact noIds_encL (fun _ => rfl) _ | exact noIds_tab (fun _ => rfl) _ _ | rfl)) | exact lw_any | exact lw_int | exact lw_bool | exact lw_ptr rfl | exact lw_slo rfl | exact lw_nils | exact lw_slo_nils | exact lw_sl rfl | exact lw_noid rfl | exact lw_cap rfl (Nat.le_refl _) | refine lw_tup ?_ | refine lw_agg ?_ | assumption))
  · have e : ∀ p : Prop, ¬ ((0 ≤ a ∧ a < L.length) ∧ p) := fun p hp => h hp.1
    by_cases h1 : a < 0
    · (try simp only [nt_lss, nt_eql])
      (repeat (first | (with_reducible refine way_t (by (first | with_reducible rfl | exact t_le (by omega) | exact t_eq (by omega) | exact t_nn (by omega) | exact t_lss (by omega) | exact t_leq (by omega) | exact t_gtr (by omega) | exact t_geq (by omega) | exact t_eql (by omega) | exact t_neq (by omega) | exact t_z (by omega) | exact wd_not_f | assumption)) ?_) | (with_reducible refine way_f (by (first | with_reducible rfl | exact f_le (by omega) | exact f_eq (by omega) | exact f_nn (by omega) | exact f_lss (by omega) | exact f_leq (by omega) | exact f_gtr (by omega) | exact f_geq (by omega) | exact f_eql (by omega) | exact f_neq (by omega) | exact f_z (by omega) | exact wd_not_t | assumption)) ?_)))
      exact ⟨rfl, _, _, [.id 0, .id 1], ⟨rfl, rfl⟩, by simp only [vQ, vX, vD, inL, h, if_false, false_and, decide_false]; (refine ⟨by kernel_rfl, ?_, ?_⟩ <;> repeat (first | exact okTms_nil | refine okTms_cons ?_ ?_ | exact okBlks_nil | refine okBlks_cons ?_ ?_ | exact lws_nil | refine lws_cons ?_ ?_ | exact lb_dead | exact lb_same (by (first | assumption | exact noIds_encL (fun _ => rfl) _ | exact noIds_tab (fun _ => rfl) _ _ | rfl)) | exact lb_ro (by (first | assumption | exact noIds_encL (fun _ => rfl) _ | exact noIds_tab (fun _ => rfl) _ _ | rfl)) | exact lb_none | refine lb_cells ?_ (by simp) | exact lb_cap (Nat.le_refl _) (Nat.le_refl _) rfl rfl | exact lb_capn (by assumption) (by (first | assumption | exact noIds_encL (fun _ => rfl) _ | exact noIds_tab (fun _ => rfl) _ _ | rfl)) | exact lw_any | exact lw_int | exact lw_bool | exact lw_ptr rfl | exact lw_slo rfl | exact lw_nils | exact lw_slo_nils | exact lw_sl rfl | exact lw_noid rfl | exact lw_cap rfl (Nat.le_refl _) | refine lw_tup ?_ | refine lw_agg ?_ | assumption))⟩
    · (try simp only [nt_lss, nt_eql])
      (repeat (first | (with_reducible refine way_t (by (first | with_reducible rfl | exact t_le (by omega) | exact t_eq (by omega) | exact t_nn (by omega) | exact t_lss (by omega) | exact t_leq (by omega) | exact t_gtr (by omega) | exact t_geq (by omega) | exact t_eql (by omega) | exact t_neq (by omega) | exact t_z (by omega) | exact wd_not_f | assumption)) ?_) | (with_reducible refine way_f (by (first | with_reducible rfl | exact f_le (by omega) | exact f_eq (by omega) | exact f_nn (by omega) | exact f_lss (by omega) | exact f_leq (by omega) | exact f_gtr (by omega) | exact f_geq (by omega) | exact f_eql (by omega) | exact f_neq (by omega) | exact f_z (by omega) | exact wd_not_t | assumption)) ?_)))
      exact ⟨rfl, _, _, [.id 0, .id 1], ⟨rfl, rfl⟩, by simp only [vQ, vX, vD, inL, h, if_false, false_and, decide_false]; (refine ⟨by kernel_rfl, ?_, ?_⟩ <;> repeat (first | exact okTms_nil | refine okTms_cons ?_ ?_ | exact okBlks_nil | refine okBlks_cons ?_ ?_ | exact lws_nil | refine lws_cons ?_ ?_ | exact lb_dead | exact lb_same (by (first | assumption | exact noIds_encL (fun _ => rfl) _ | exact noIds_tab (fun _ => rfl) _ _ | rfl)) | exact lb_ro (by (first | assumption | exact noIds_encL (fun _ => rfl) _ | exact noIds_tab (fun _ => rfl) _ _ | rfl)) | exact lb_none | refine lb_cells ?_ (by simp) | exact lb_cap (Nat.le_refl _) (Nat.le_refl _) rfl rfl | exact lb_capn (by assumption) (by (first | assumption | exact noIds_encL (fun _ => rfl) _ | exact noIds_tab (fun _ => rfl) _ _ | rfl)) | exact lw_any | exact lw_int | exact lw_bool | exact lw_ptr rfl | exact lw_slo rfl | exact lw_nils | exact lw_slo_nils | exact lw_sl rfl | exact lw_noid rfl | exact lw_cap rfl (Nat.le_refl _) | refine lw_tup ?_ | refine lw_agg ?_ | assumption))⟩
end
end Go.Lev
