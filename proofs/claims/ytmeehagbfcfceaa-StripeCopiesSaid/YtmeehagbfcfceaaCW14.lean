/- chapter 3: the two laws -/
import Derived.Test.YtmeehagbfcfceaaCW13
import Derived.Test.YtmeehagbfcfceaaLc
import Derived.Test.YtmeehagbfcfceaaChecked
import Derived.KernelRfl

namespace Go.Lev
open Go.RowKit
set_option linter.unusedVariables false
set_option linter.unusedSimpArgs false
set_option maxRecDepth 100000
noncomputable section
theorem runs3 : isTrue (lrun Go.Proofs.Try.prog 4000 3 []) = true := by kernel_rfl
theorem cxp_ok : CtrOk Go.Proofs.Try.prog (ctrOf cxp) := cxl_ok ⟨runG_ok runs3, newmemG_ok, doG_ok, sameG_ok, cloneL_ok, trivial⟩
theorem zw32 : ([.int .u64 0, .int .u64 0, .int .u64 0, .int .u64 0, .int .u64 0, .int .u64 0, .int .u64 0, .int .u64 0, .int .u64 0, .int .u64 0, .int .u64 0, .int .u64 0, .int .u64 0, .int .u64 0, .int .u64 0, .int .u64 0, .int .u64 0, .int .u64 0, .int .u64 0, .int .u64 0, .int .u64 0, .int .u64 0, .int .u64 0, .int .u64 0, .int .u64 0, .int .u64 0, .int .u64 0, .int .u64 0, .int .u64 0, .int .u64 0, .int .u64 0, .int .u64 0] : List LV) = zW 32 := by kernel_rfl
theorem zw1 : ([.int .u64 0] : List LV) = zW 1 := by kernel_rfl
theorem xrepL (n : Nat) : xrep n [.int .u64 0, .bool false, .int .i64 0] = zL n := encL_rep (f := cL) (0, false, 0) n
theorem okW32 : okIu64 (zW 32) 32 = true := okIu64_iff.2 ⟨_, rfl, by simp, by omega⟩
theorem okW1 : okIu64 (zW 1) 1 = true := okIu64_iff.2 ⟨_, rfl, by simp, by omega⟩
theorem okZL {n : Nat} (h : n ≤ 1000000) : okL (zL n) n = true := okL_iff.2 ⟨_, rfl, by simp, h⟩
theorem len_L {ls : List LV} {n : Nat} (h : okL ls n = true) : ls.length = n * 3 := by obtain ⟨L, rfl, e, _⟩ := okL_iff.1 h; rw [lk_n, e]
theorem xnoid_L {ls : List LV} {n : Nat} (h : okL ls n = true) : xnoid ls = true := by obtain ⟨L, rfl, e, _⟩ := okL_iff.1 h; exact xnoid_l L
theorem clamp16 (a : Int) : ∃ n : Nat, xmn (xmx a 1) 16 = n ∧ 1 ≤ n ∧ n ≤ 16 := by
  obtain ⟨h1, h2⟩ := cl_in a (lo := 1) (hi := 16) (by omega)
  exact ⟨(xmn (xmx a 1) 16).toNat, by omega, by omega, by omega⟩
theorem plays_fun (a b : Int) (xs : List Ask3) (n : Nat) (en : xs.length = n) (hn : n ≤ 9223372036854775807) :
    SFun Go.Proofs.Try.prog 4 [.int .i64 a, .int .i64 b, .slo 0 0 n 0] (mkS [.ro (encL askL xs)]) fun l _ => l = .bool true := by
  refine SFun.mono (SFun.pieces (Q := fun l _ => l = .bool true) 24 1 spL [6] (by kernel_rfl) rfl rfl rfl ?_) fun l s' ⟨b0, h1, _⟩ => h1
  have nx := noids_a xs
  have oa := okR_enc en hn
  obtain ⟨nl, ea, l1, l2⟩ := clamp16 a
  obtain ⟨nw, eb, _, _⟩ := clamp16 b
  have oz := okZL (n := nl) (by omega)
  have nz := okL_noids oz
  have lz := len_L oz
  refine SSp.to cxp_ok (n := 40) (g := []) 4 4 rfl (σ := Unit) (fun _ => spT a b n) (fun _ => spH nw nl (encL askL xs) (zL nl)) (mkS_le (Nat.le_refl _)) (by kernel_rfl) ?_ fun _ => ?_
  · rw [sp_a, ea, eb]
    simp only [wd_nat, wd_asV, wd_isV, wd_ix, wd_add, wd_mul, wd_ln, Nat.zero_add, Nat.mul_one, wd_isI, wd_asI, wd_isB, wd_asB, wd_nn, cI_tlen, cB_tlen, cII_tlen, decide_true, cond_true, wd_not_t, wd_not_f, wd_and_t, wd_and_f, xrepL]
    (repeat (first | (with_reducible refine way_t (by (first | with_reducible rfl | exact t_le (by omega) | exact t_eq (by omega) | exact t_nn (by omega) | exact t_lss (by omega) | exact t_leq (by omega) | exact t_gtr (by omega) | exact t_geq (by omega) | exact t_eql (by omega) | exact t_neq (by omega) | exact t_z (by omega) | exact wd_not_f | assumption)) ?_) | (with_reducible refine way_f (by (first | with_reducible rfl | exact f_le (by omega) | exact f_eq (by omega) | exact f_nn (by omega) | exact f_lss (by omega) | exact f_leq (by omega) | exact f_gtr (by omega) | exact f_geq (by omega) | exact f_eql (by omega) | exact f_neq (by omega) | exact f_z (by omega) | exact wd_not_t | assumption)) ?_)))
    exact ⟨rfl, (), [.id 0, .id 2, .cap 1 0 nl], by (refine ⟨by kernel_rfl, ?_, ?_⟩ <;> repeat (first | exact okTms_nil | refine okTms_cons ?_ ?_ | exact okBlks_nil | refine okBlks_cons ?_ ?_ | exact lws_nil | refine lws_cons ?_ ?_ | exact lb_dead | exact lb_same (by (first | assumption | exact noIds_encL (fun _ => rfl) _ | exact noIds_tab (fun _ => rfl) _ _ | rfl)) | exact lb_ro (by (first | assumption | exact noIds_encL (fun _ => rfl) _ | exact noIds_tab (fun _ => rfl) _ _ | rfl)) | exact lb_none | refine lb_cells ?_ (by simp) | exact lb_cap (Nat.le_refl _) (Nat.le_refl _) rfl rfl | exact lb_capn (by assumption) (by (first | assumption | exact noIds_encL (fun _ => rfl) _ | exact noIds_tab (fun _ => rfl) _ _ | rfl)) | exact lw_any | exact lw_int | exact lw_bool | exact lw_ptr rfl | exact lw_slo rfl | exact lw_nils | exact lw_slo_nils | exact lw_sl rfl | exact lw_noid rfl | exact lw_cap rfl (Nat.le_refl _) | refine lw_tup ?_ | refine lw_agg ?_ | assumption))⟩
  refine SSp.last cxp_ok (n := 40) (mkS_le (Nat.le_of_ble_eq_true rfl)) ?_
  rw [sp_z, ea, eb, zw32, zw1]
  simp only [wd_nat, wd_asV, wd_isV, wd_ix, wd_add, wd_mul, wd_ln, Nat.zero_add, Nat.mul_one, wd_isI, wd_asI, wd_isB, wd_asB, wd_nn, cI_tlen, cB_tlen, cII_tlen, decide_true, cond_true, wd_not_t, wd_not_f, wd_and_t, wd_and_f, okW32, okW1, oz, oa, eqLs_self]
  (repeat (first | (with_reducible refine way_t (by (first | with_reducible rfl | exact t_le (by omega) | exact t_eq (by omega) | exact t_nn (by omega) | exact t_lss (by omega) | exact t_leq (by omega) | exact t_gtr (by omega) | exact t_geq (by omega) | exact t_eql (by omega) | exact t_neq (by omega) | exact t_z (by omega) | exact wd_not_f | assumption)) ?_) | (with_reducible refine way_f (by (first | with_reducible rfl | exact f_le (by omega) | exact f_eq (by omega) | exact f_nn (by omega) | exact f_lss (by omega) | exact f_leq (by omega) | exact f_gtr (by omega) | exact f_geq (by omega) | exact f_eql (by omega) | exact f_neq (by omega) | exact f_z (by omega) | exact wd_not_t | assumption)) ?_)))
  exact ⟨trivial, rfl, .bool true, [.ro _], [.id 0], rfl, by (refine ⟨by kernel_rfl, ?_, ?_⟩ <;> repeat (first | exact okTms_nil | refine okTms_cons ?_ ?_ | exact okBlks_nil | refine okBlks_cons ?_ ?_ | exact lws_nil | refine lws_cons ?_ ?_ | exact lb_dead | exact lb_same (by (first | assumption | exact noIds_encL (fun _ => rfl) _ | exact noIds_tab (fun _ => rfl) _ _ | rfl)) | exact lb_ro (by (first | assumption | exact noIds_encL (fun _ => rfl) _ | exact noIds_tab (fun _ => rfl) _ _ | rfl)) | exact lb_none | refine lb_cells ?_ (by simp) | exact lb_cap (Nat.le_refl _) (Nat.le_refl _) rfl rfl | exact lb_capn (by assumption) (by (first | assumption | exact noIds_encL (fun _ => rfl) _ | exact noIds_tab (fun _ => rfl) _ _ | rfl)) | exact lw_any | exact lw_int | exact lw_bool | exact lw_ptr rfl | exact lw_slo rfl | exact lw_nils | exact lw_slo_nils | exact lw_sl rfl | exact lw_noid rfl | exact lw_cap rfl (Nat.le_refl _) | refine lw_tup ?_ | refine lw_agg ?_ | assumption))⟩
theorem copies_fun (a b : Int) (xs ys zs : List Ask3) (na nb nc : Nat) (ea : xs.length = na) (eb : ys.length = nb) (ec : zs.length = nc) (ha : na ≤ 9223372036854775807) (hb : nb ≤ 9223372036854775807) (hc : nc ≤ 9223372036854775807) :
    SFun Go.Proofs.Try.prog 8 [.int .i64 a, .int .i64 b, .slo 0 0 na 0, .slo 1 0 nb 0, .slo 2 0 nc 0] (mkS [.ro (encL askL xs), .ro (encL askL ys), .ro (encL askL zs)]) fun l _ => l = .bool true := by
  refine SFun.mono (SFun.pieces (Q := fun l _ => l = .bool true) 63 3 scL [10] (by kernel_rfl) rfl rfl rfl ?_) fun l s' ⟨b0, h1, _⟩ => h1
  have nx := noids_a xs
  have ny := noids_a ys
  have nzz := noids_a zs
  have oa := okR_enc ea ha
  have ob := okR_enc eb hb
  have oc := okR_enc ec hc
  obtain ⟨nl, en, l1, l2⟩ := clamp16 a
  obtain ⟨nw, ew, _, _⟩ := clamp16 b
  obtain ⟨sb, hsb⟩ : ∃ sb : Int, (nl : Int) = sb := ⟨_, rfl⟩
  have oz := okZL (n := nl) (by omega)
  have nz := okL_noids oz
  have lz := len_L oz
  have w1 : noIds (zW 32) = true := noIds_Iu64 _
  have w3 : noIds (zW 1) = true := noIds_Iu64 _
  have v1 : (zW 32).length = 32 := by rw [zW, encIu64_len]; simp
  have v3 : (zW 1).length = 1 := by rw [zW, encIu64_len]; simp
  refine SSp.to cxp_ok (n := 40) (g := []) 4 4 rfl (σ := Unit) (fun _ => scT na nb nc) (fun _ => scH 32 sb nw 1 0 0 0 nw 32 nl 1 (zW 32) (zL nl) (zW 1) (encL askL xs) (encL askL ys) (encL askL zs)) (mkS_le (Nat.le_refl _)) (by kernel_rfl) ?_ fun _ => ?_
  · rw [sc_a, en, ew, zw32, zw1, hsb, ← hsb]
    simp only [wd_nat, wd_asV, wd_isV, wd_ix, wd_add, wd_mul, wd_ln, Nat.zero_add, Nat.mul_one, wd_isI, wd_asI, wd_isB, wd_asB, wd_nn, cI_tlen, cB_tlen, cII_tlen, decide_true, cond_true, wd_not_t, wd_not_f, wd_and_t, wd_and_f, xrepL]
    (repeat (first | (with_reducible refine way_t (by (first | with_reducible rfl | exact t_le (by omega) | exact t_eq (by omega) | exact t_nn (by omega) | exact t_lss (by omega) | exact t_leq (by omega) | exact t_gtr (by omega) | exact t_geq (by omega) | exact t_eql (by omega) | exact t_neq (by omega) | exact t_z (by omega) | exact wd_not_f | assumption)) ?_) | (with_reducible refine way_f (by (first | with_reducible rfl | exact f_le (by omega) | exact f_eq (by omega) | exact f_nn (by omega) | exact f_lss (by omega) | exact f_leq (by omega) | exact f_gtr (by omega) | exact f_geq (by omega) | exact f_eql (by omega) | exact f_neq (by omega) | exact f_z (by omega) | exact wd_not_t | assumption)) ?_)))
    exact ⟨rfl, (), [.id 0, .id 1, .id 2, .id 4, .cap 3 0 nl, .id 5, .id 6, .id 7, .id 8], by (refine ⟨by kernel_rfl, ?_, ?_⟩ <;> repeat (first | exact okTms_nil | refine okTms_cons ?_ ?_ | exact okBlks_nil | refine okBlks_cons ?_ ?_ | exact lws_nil | refine lws_cons ?_ ?_ | exact lb_dead | exact lb_same (by (first | assumption | exact noIds_encL (fun _ => rfl) _ | exact noIds_tab (fun _ => rfl) _ _ | rfl)) | exact lb_ro (by (first | assumption | exact noIds_encL (fun _ => rfl) _ | exact noIds_tab (fun _ => rfl) _ _ | rfl)) | exact lb_none | refine lb_cells ?_ (by simp) | exact lb_cap (Nat.le_refl _) (Nat.le_refl _) rfl rfl | exact lb_capn (by assumption) (by (first | assumption | exact noIds_encL (fun _ => rfl) _ | exact noIds_tab (fun _ => rfl) _ _ | rfl)) | exact lw_any | exact lw_int | exact lw_bool | exact lw_ptr rfl | exact lw_slo rfl | exact lw_nils | exact lw_slo_nils | exact lw_sl rfl | exact lw_noid rfl | exact lw_cap rfl (Nat.le_refl _) | refine lw_tup ?_ | refine lw_agg ?_ | assumption))⟩
  refine SSp.to cxp_ok (n := 40) (g := []) 2 6 rfl (σ := {p : List LV × Int // okL p.1 nl = true}) (fun _ => scT na nb nc) (fun p => scH 32 sb nw 1 0 0 p.1.2 nw 32 nl 1 (zW 32) p.1.1 (zW 1) (encL askL xs) (encL askL ys) (encL askL zs)) (mkS_le (Nat.le_of_ble_eq_true rfl)) (by kernel_rfl) ?_ fun ⟨⟨ls, C⟩, ok⟩ => ?_
  · rw [sc_b]
    have oi := okL_iL oz na (encL askL xs) 0
    have ni := okL_noids oi
    simp only [wd_nat, wd_asV, wd_isV, wd_ix, wd_add, wd_mul, wd_ln, Nat.zero_add, Nat.mul_one, wd_isI, wd_asI, wd_isB, wd_asB, wd_nn, cI_tlen, cB_tlen, cII_tlen, decide_true, cond_true, wd_not_t, wd_not_f, wd_and_t, wd_and_f, okW32, okW1, oz, oa, eqLs_self]
    (repeat (first | (with_reducible refine way_t (by (first | with_reducible rfl | exact t_le (by omega) | exact t_eq (by omega) | exact t_nn (by omega) | exact t_lss (by omega) | exact t_leq (by omega) | exact t_gtr (by omega) | exact t_geq (by omega) | exact t_eql (by omega) | exact t_neq (by omega) | exact t_z (by omega) | exact wd_not_f | assumption)) ?_) | (with_reducible refine way_f (by (first | with_reducible rfl | exact f_le (by omega) | exact f_eq (by omega) | exact f_nn (by omega) | exact f_lss (by omega) | exact f_leq (by omega) | exact f_gtr (by omega) | exact f_geq (by omega) | exact f_eql (by omega) | exact f_neq (by omega) | exact f_z (by omega) | exact wd_not_t | assumption)) ?_)))
    exact ⟨rfl, ⟨(iL na nl (encL askL xs) (zL nl) 0, iC na nl (encL askL xs) (zL nl) 0), oi⟩, [.id 0, .id 1, .id 2, .id 3, .id 4, .id 5, .id 6, .id 7, .id 8], by (refine ⟨by kernel_rfl, ?_, ?_⟩ <;> repeat (first | exact okTms_nil | refine okTms_cons ?_ ?_ | exact okBlks_nil | refine okBlks_cons ?_ ?_ | exact lws_nil | refine lws_cons ?_ ?_ | exact lb_dead | exact lb_same (by (first | assumption | exact noIds_encL (fun _ => rfl) _ | exact noIds_tab (fun _ => rfl) _ _ | rfl)) | exact lb_ro (by (first | assumption | exact noIds_encL (fun _ => rfl) _ | exact noIds_tab (fun _ => rfl) _ _ | rfl)) | exact lb_none | refine lb_cells ?_ (by simp) | exact lb_cap (Nat.le_refl _) (Nat.le_refl _) rfl rfl | exact lb_capn (by assumption) (by (first | assumption | exact noIds_encL (fun _ => rfl) _ | exact noIds_tab (fun _ => rfl) _ _ | rfl)) | exact lw_any | exact lw_int | exact lw_bool | exact lw_ptr rfl | exact lw_slo rfl | exact lw_nils | exact lw_slo_nils | exact lw_sl rfl | exact lw_noid rfl | exact lw_cap rfl (Nat.le_refl _) | refine lw_tup ?_ | refine lw_agg ?_ | assumption))⟩
  have ok : okL ls nl = true := ok
  have nls := okL_noids ok
  have lls := len_L ok
  have xls := xnoid_L ok
  refine SSp.to cxp_ok (n := 40) (g := []) 1 7 rfl (σ := Unit) (fun _ => scU nb nc) (fun _ => scI 32 sb nw 1 0 0 C nw 32 nl 1 (zW 32) ls (zW 1) (encL askL xs) (encL askL ys) (encL askL zs)) (mkS_le (Nat.le_of_ble_eq_true rfl)) (by kernel_rfl) ?_ fun _ => ?_
  · dsimp only
    rw [sc_c]
    have e1 : xcut (zW 32) 0 32 = zW 32 := xcut_all (by omega)
    have e2 : xcut ls 0 (nl * 3) = ls := xcut_all (by omega)
    have e3 : xcut (zW 1) 0 1 = zW 1 := xcut_all (by omega)
    simp only [wd_nat, wd_asV, wd_isV, wd_ix, wd_add, wd_mul, wd_ln, Nat.zero_add, Nat.mul_one, wd_isI, wd_asI, wd_isB, wd_asB, wd_nn, cI_tlen, cB_tlen, cII_tlen, decide_true, cond_true, wd_not_t, wd_not_f, wd_and_t, wd_and_f, xcm_self, v1, v3, lls, xls, e1, e2, e3]
    (repeat (first | (with_reducible refine way_t (by (first | with_reducible rfl | exact t_le (by omega) | exact t_eq (by omega) | exact t_nn (by omega) | exact t_lss (by omega) | exact t_leq (by omega) | exact t_gtr (by omega) | exact t_geq (by omega) | exact t_eql (by omega) | exact t_neq (by omega) | exact t_z (by omega) | exact wd_not_f | assumption)) ?_) | (with_reducible refine way_f (by (first | with_reducible rfl | exact f_le (by omega) | exact f_eq (by omega) | exact f_nn (by omega) | exact f_lss (by omega) | exact f_leq (by omega) | exact f_gtr (by omega) | exact f_geq (by omega) | exact f_eql (by omega) | exact f_neq (by omega) | exact f_z (by omega) | exact wd_not_t | assumption)) ?_)))
    exact ⟨rfl, (), [.id 0, .id 1, .id 2, .id 3, .id 4, .id 5, .id 6, .id 7, .id 8, .id 10, .id 9, .id 14, .id 11, .id 12, .id 13], by (refine ⟨by kernel_rfl, ?_, ?_⟩ <;> repeat (first | exact okTms_nil | refine okTms_cons ?_ ?_ | exact okBlks_nil | refine okBlks_cons ?_ ?_ | exact lws_nil | refine lws_cons ?_ ?_ | exact lb_dead | exact lb_same (by (first | assumption | exact noIds_encL (fun _ => rfl) _ | exact noIds_tab (fun _ => rfl) _ _ | rfl)) | exact lb_ro (by (first | assumption | exact noIds_encL (fun _ => rfl) _ | exact noIds_tab (fun _ => rfl) _ _ | rfl)) | exact lb_none | refine lb_cells ?_ (by simp) | exact lb_cap (Nat.le_refl _) (Nat.le_refl _) rfl rfl | exact lb_capn (by assumption) (by (first | assumption | exact noIds_encL (fun _ => rfl) _ | exact noIds_tab (fun _ => rfl) _ _ | rfl)) | exact lw_any | exact lw_int | exact lw_bool | exact lw_ptr rfl | exact lw_slo rfl | exact lw_nils | exact lw_slo_nils | exact lw_sl rfl | exact lw_noid rfl | exact lw_cap rfl (Nat.le_refl _) | refine lw_tup ?_ | refine lw_agg ?_ | assumption))⟩
  have oi := okL_iL ok nb (encL askL ys) C
  refine SSp.last cxp_ok (n := 40) (mkS_le (Nat.le_of_ble_eq_true rfl)) ?_
  rw [sc_z]
  have c1 := cl_in (nw : Int) (lo := 1) (hi := 16) (by omega)
  have c2 := cl_in (nl : Int) (lo := 1) (hi := 16) (by omega)
  simp only [wd_nat, wd_asV, wd_isV, wd_ix, wd_add, wd_mul, wd_ln, Nat.zero_add, Nat.mul_one, wd_isI, wd_asI, wd_isB, wd_asB, wd_nn, cI_tlen, cB_tlen, cII_tlen, decide_true, cond_true, wd_not_t, wd_not_f, wd_and_t, wd_and_f, okW32, okW1, ok, oi, ob, oc, eqLs_self, xcm_self]
  (repeat (first | (with_reducible refine way_t (by (first | with_reducible rfl | exact t_le (by omega) | exact t_eq (by omega) | exact t_nn (by omega) | exact t_lss (by omega) | exact t_leq (by omega) | exact t_gtr (by omega) | exact t_geq (by omega) | exact t_eql (by omega) | exact t_neq (by omega) | exact t_z (by omega) | exact wd_not_f | assumption)) ?_) | (with_reducible refine way_f (by (first | with_reducible rfl | exact f_le (by omega) | exact f_eq (by omega) | exact f_nn (by omega) | exact f_lss (by omega) | exact f_leq (by omega) | exact f_gtr (by omega) | exact f_geq (by omega) | exact f_eql (by omega) | exact f_neq (by omega) | exact f_z (by omega) | exact wd_not_t | assumption)) ?_)))
  exact ⟨trivial, rfl, .bool true, [.ro _, .ro _, .ro _], [.id 0, .id 1, .id 2], rfl, by (refine ⟨by kernel_rfl, ?_, ?_⟩ <;> repeat (first | exact okTms_nil | refine okTms_cons ?_ ?_ | exact okBlks_nil | refine okBlks_cons ?_ ?_ | exact lws_nil | refine lws_cons ?_ ?_ | exact lb_dead | exact lb_same (by (first | assumption | exact noIds_encL (fun _ => rfl) _ | exact noIds_tab (fun _ => rfl) _ _ | rfl)) | exact lb_ro (by (first | assumption | exact noIds_encL (fun _ => rfl) _ | exact noIds_tab (fun _ => rfl) _ _ | rfl)) | exact lb_none | refine lb_cells ?_ (by simp) | exact lb_cap (Nat.le_refl _) (Nat.le_refl _) rfl rfl | exact lb_capn (by assumption) (by (first | assumption | exact noIds_encL (fun _ => rfl) _ | exact noIds_tab (fun _ => rfl) _ _ | rfl)) | exact lw_any | exact lw_int | exact lw_bool | exact lw_ptr rfl | exact lw_slo rfl | exact lw_nils | exact lw_slo_nils | exact lw_sl rfl | exact lw_noid rfl | exact lw_cap rfl (Nat.le_refl _) | refine lw_tup ?_ | refine lw_agg ?_ | assumption))⟩
end
end Go.Lev
