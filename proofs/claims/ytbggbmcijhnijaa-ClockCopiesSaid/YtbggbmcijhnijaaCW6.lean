/- ClockCopies (P4.1): for any start, any exchanges, the law returns true; what was there stays as it was. No condition. -/
import Derived.Test.YtbggbmcijhnijaaCW5
import Derived.Test.YtbggbmcijhnijaaLc
import Derived.Test.YtbggbmcijhnijaaChecked
import Derived.KernelRfl

namespace Go.Lev
open Go.RowKit
set_option linter.unusedVariables false
set_option linter.unusedSimpArgs false
set_option maxRecDepth 100000
noncomputable section
theorem runs4 : isTrue (lrun Go.Proofs.Try.prog 4000 3 []) = true := by kernel_rfl
theorem cxp_ok : CtrOk Go.Proofs.Try.prog (ctrOf cxp) := cxl_ok ⟨runG_ok runs4, newmemG_ok, doG_ok, trivial⟩
theorem zw32 : ([.int .u64 0, .int .u64 0, .int .u64 0, .int .u64 0, .int .u64 0, .int .u64 0, .int .u64 0, .int .u64 0, .int .u64 0, .int .u64 0, .int .u64 0, .int .u64 0, .int .u64 0, .int .u64 0, .int .u64 0, .int .u64 0, .int .u64 0, .int .u64 0, .int .u64 0, .int .u64 0, .int .u64 0, .int .u64 0, .int .u64 0, .int .u64 0, .int .u64 0, .int .u64 0, .int .u64 0, .int .u64 0, .int .u64 0, .int .u64 0, .int .u64 0, .int .u64 0] : List LV) = zW 32 := by kernel_rfl
theorem zw1 : ([.int .u64 0] : List LV) = zW 1 := by kernel_rfl
theorem zl1 : ([.int .u64 0, .bool false, .int .i64 0] : List LV) = zL 1 := by kernel_rfl
theorem copies_fun (st : Int) (xs ys : List Ask4) (na nb : Nat) (ea : xs.length = na) (eb : ys.length = nb) (ha : na ≤ 9223372036854775807) (hb : nb ≤ 9223372036854775807) :
    SFun Go.Proofs.Try.prog 7 [.int .u64 st, .slo 0 0 na 0, .slo 1 0 nb 0] (mkS [.ro (encL askL xs), .ro (encL askL ys)]) fun l _ => l = .bool true := by
  refine SFun.mono (SFun.pieces (Q := fun l _ => l = .bool true) 67 2 ccL [6] (by kernel_rfl) rfl rfl rfl ?_) fun l s' ⟨b0, h1, _⟩ => h1
  have nx := noids_a xs
  have ny := noids_a ys
  have oka := okR_enc ea ha
  have okb := okR_enc eb hb
  have o1 : okIu64 (zW 32) 32 = true := okIu64_iff.2 ⟨_, rfl, by simp, by omega⟩
  have o2 : okL (zL 1) 1 = true := okL_iff.2 ⟨_, rfl, by simp, by omega⟩
  have o3 : okIu64 (zW 1) 1 = true := okIu64_iff.2 ⟨_, rfl, by simp, by omega⟩
  have l1 : (zW 32).length = 32 := by rw [zW, encIu64_len]; simp
  have l2 : (zL 1).length = 3 := by rw [zL, lk_n]; simp
  have l3 : (zW 1).length = 1 := by rw [zW, encIu64_len]; simp
  have w1 : noIds (zW 32) = true := noIds_Iu64 _
  have w2 : noIds (zL 1) = true := noids_l _
  have w3 : noIds (zW 1) = true := noIds_Iu64 _
  refine SSp.to cxp_ok (n := 40) (g := []) 4 4 rfl (σ := Int × Int × Int) (fun _ => ccT na nb) (fun M => ccH 32 1 1 1 M.2.2 M.1 M.2.1 (zW 32) (zL 1) (zW 1) (encL askL xs) (encL askL ys)) (mkS_le (Nat.le_refl _)) (by kernel_rfl) ?_ fun M => ?_
  · rw [cc_a, zw32, zl1, zw1]
    exact ⟨rfl, (xmn st 4611686018427387903, 0, xmn st 4611686018427387903), [.id 0, .id 1, .id 2, .id 3, .id 4, .id 5, .id 6], by (exact ⟨by kernel_rfl, by ((repeat refine okTms_cons (by (first | exact lw_any | exact lw_int | exact lw_bool | exact lw_ptr rfl | exact lw_slo rfl | exact lw_nilp | exact lw_nils | exact lw_str | exact lw_slo_nils | exact lw_slo_sle | exact lw_sl rfl | exact lw_unb | exact lw_gptr | exact lw_noid rfl | exact lw_cap rfl (Nat.le_refl _) | exact lw_cap rfl (by omega) | assumption)) ?_); exact okTms_nil), by ((repeat refine okBlks_cons (by (first | exact lb_dead | exact lb_same (by (first | assumption | exact noIds_tab (fun _ => rfl) _ _ | exact noIds_encL (fun _ => rfl) _ | rfl)) | exact lb_ro (by (first | assumption | exact noIds_tab (fun _ => rfl) _ _ | exact noIds_encL (fun _ => rfl) _ | rfl)) | exact lb_none | exact lb_cells (by ((repeat refine lws_cons (by (first | exact lw_any | exact lw_int | exact lw_bool | exact lw_ptr rfl | exact lw_slo rfl | exact lw_nilp | exact lw_nils | exact lw_str | exact lw_slo_nils | exact lw_slo_sle | exact lw_sl rfl | exact lw_unb | exact lw_gptr | exact lw_noid rfl | exact lw_cap rfl (Nat.le_refl _) | exact lw_cap rfl (by omega) | assumption)) ?_); exact lws_nil)) (by simp) | exact lb_iter | exact lb_cap (Nat.le_refl _) (Nat.le_refl _) rfl rfl | exact lb_capn (by assumption) (by (first | assumption | exact noIds_tab (fun _ => rfl) _ _ | exact noIds_encL (fun _ => rfl) _ | rfl)) | assumption)) ?_); exact okBlks_nil)⟩)⟩
  refine SSp.to cxp_ok (n := 40) (g := []) 2 6 rfl (σ := Int × Int × Int) (fun _ => ccT na nb) (fun M => ccH 32 1 1 1 M.2.2 M.1 M.2.1 (zW 32) (zL 1) (zW 1) (encL askL xs) (encL askL ys)) (mkS_le (Nat.le_of_ble_eq_true rfl)) (by kernel_rfl) ?_ fun M => ?_
  · rw [cc_b]
    simp only [o1, o2, o3, oka, xcm_self, cond_true]
    exact ⟨rfl, (iN na (encL askL xs) M.1 M.2.1, iC na (encL askL xs) M.1 M.2.1, M.2.2), [.id 0, .id 1, .id 2, .id 3, .id 4, .id 5, .id 6], by (exact ⟨by kernel_rfl, by ((repeat refine okTms_cons (by (first | exact lw_any | exact lw_int | exact lw_bool | exact lw_ptr rfl | exact lw_slo rfl | exact lw_nilp | exact lw_nils | exact lw_str | exact lw_slo_nils | exact lw_slo_sle | exact lw_sl rfl | exact lw_unb | exact lw_gptr | exact lw_noid rfl | exact lw_cap rfl (Nat.le_refl _) | exact lw_cap rfl (by omega) | assumption)) ?_); exact okTms_nil), by ((repeat refine okBlks_cons (by (first | exact lb_dead | exact lb_same (by (first | assumption | exact noIds_tab (fun _ => rfl) _ _ | exact noIds_encL (fun _ => rfl) _ | rfl)) | exact lb_ro (by (first | assumption | exact noIds_tab (fun _ => rfl) _ _ | exact noIds_encL (fun _ => rfl) _ | rfl)) | exact lb_none | exact lb_cells (by ((repeat refine lws_cons (by (first | exact lw_any | exact lw_int | exact lw_bool | exact lw_ptr rfl | exact lw_slo rfl | exact lw_nilp | exact lw_nils | exact lw_str | exact lw_slo_nils | exact lw_slo_sle | exact lw_sl rfl | exact lw_unb | exact lw_gptr | exact lw_noid rfl | exact lw_cap rfl (Nat.le_refl _) | exact lw_cap rfl (by omega) | assumption)) ?_); exact lws_nil)) (by simp) | exact lb_iter | exact lb_cap (Nat.le_refl _) (Nat.le_refl _) rfl rfl | exact lb_capn (by assumption) (by (first | assumption | exact noIds_tab (fun _ => rfl) _ _ | exact noIds_encL (fun _ => rfl) _ | rfl)) | assumption)) ?_); exact okBlks_nil)⟩)⟩
  refine SSp.to cxp_ok (n := 40) (g := []) 1 7 rfl (σ := Unit) (fun _ => ccU na nb) (fun _ => ccI 32 1 1 1 M.2.2 M.1 M.2.1 (zW 32) (zL 1) (zW 1) (encL askL xs) (encL askL ys)) (mkS_le (Nat.le_of_ble_eq_true rfl)) (by kernel_rfl) ?_ fun _ => ?_
  · rw [cc_c]
    have e1 : xcut (zW 32) 0 32 = zW 32 := xcut_all (by omega)
    have e2 : xcut (zL 1) 0 3 = zL 1 := xcut_all (by omega)
    have e3 : xcut (zW 1) 0 1 = zW 1 := xcut_all (by omega)
    simp only [xcm_self, cond_true, wd_ln, l1, l2, l3, e1, e2, e3]
    (repeat (first | (with_reducible refine way_t (by (first | with_reducible rfl | exact t_le (by omega) | exact t_eq (by omega) | exact t_nn (by omega) | exact t_lss (by omega) | exact t_leq (by omega) | exact t_gtr (by omega) | exact t_geq (by omega) | exact t_eql (by omega) | exact t_neq (by omega) | exact t_z (by omega) | exact wd_not_f | assumption)) ?_) | (with_reducible refine way_f (by (first | with_reducible rfl | exact f_le (by omega) | exact f_eq (by omega) | exact f_nn (by omega) | exact f_lss (by omega) | exact f_leq (by omega) | exact f_gtr (by omega) | exact f_geq (by omega) | exact f_eql (by omega) | exact f_neq (by omega) | exact f_z (by omega) | exact wd_not_t | assumption)) ?_)))
    exact ⟨rfl, (), [.id 0, .id 1, .id 2, .id 3, .id 4, .id 5, .id 6, .id 7, .id 11, .id 8, .id 9, .id 10], by (exact ⟨by kernel_rfl, by ((repeat refine okTms_cons (by (first | exact lw_any | exact lw_int | exact lw_bool | exact lw_ptr rfl | exact lw_slo rfl | exact lw_nilp | exact lw_nils | exact lw_str | exact lw_slo_nils | exact lw_slo_sle | exact lw_sl rfl | exact lw_unb | exact lw_gptr | exact lw_noid rfl | exact lw_cap rfl (Nat.le_refl _) | exact lw_cap rfl (by omega) | assumption)) ?_); exact okTms_nil), by ((repeat refine okBlks_cons (by (first | exact lb_dead | exact lb_same (by (first | assumption | exact noIds_tab (fun _ => rfl) _ _ | exact noIds_encL (fun _ => rfl) _ | rfl)) | exact lb_ro (by (first | assumption | exact noIds_tab (fun _ => rfl) _ _ | exact noIds_encL (fun _ => rfl) _ | rfl)) | exact lb_none | exact lb_cells (by ((repeat refine lws_cons (by (first | exact lw_any | exact lw_int | exact lw_bool | exact lw_ptr rfl | exact lw_slo rfl | exact lw_nilp | exact lw_nils | exact lw_str | exact lw_slo_nils | exact lw_slo_sle | exact lw_sl rfl | exact lw_unb | exact lw_gptr | exact lw_noid rfl | exact lw_cap rfl (Nat.le_refl _) | exact lw_cap rfl (by omega) | assumption)) ?_); exact lws_nil)) (by simp) | exact lb_iter | exact lb_cap (Nat.le_refl _) (Nat.le_refl _) rfl rfl | exact lb_capn (by assumption) (by (first | assumption | exact noIds_tab (fun _ => rfl) _ _ | exact noIds_encL (fun _ => rfl) _ | rfl)) | assumption)) ?_); exact okBlks_nil)⟩)⟩
  refine SSp.last cxp_ok (n := 40) (mkS_le (Nat.le_of_ble_eq_true rfl)) ?_
  rw [cc_z]
  simp only [o1, o2, o3, okb, xcm_self, xnm_self, cond_true, cond_false]
  (repeat (first | (with_reducible refine way_t (by (first | with_reducible rfl | exact t_le (by omega) | exact t_eq (by omega) | exact t_nn (by omega) | exact t_lss (by omega) | exact t_leq (by omega) | exact t_gtr (by omega) | exact t_geq (by omega) | exact t_eql (by omega) | exact t_neq (by omega) | exact t_z (by omega) | exact wd_not_f | assumption)) ?_) | (with_reducible refine way_f (by (first | with_reducible rfl | exact f_le (by omega) | exact f_eq (by omega) | exact f_nn (by omega) | exact f_lss (by omega) | exact f_leq (by omega) | exact f_gtr (by omega) | exact f_geq (by omega) | exact f_eql (by omega) | exact f_neq (by omega) | exact f_z (by omega) | exact wd_not_t | assumption)) ?_)))
  exact ⟨trivial, rfl, .bool true, [.ro _, .ro _], [.id 0, .id 1], rfl, by (exact ⟨by kernel_rfl, by ((repeat refine okTms_cons (by (first | exact lw_any | exact lw_int | exact lw_bool | exact lw_ptr rfl | exact lw_slo rfl | exact lw_nilp | exact lw_nils | exact lw_str | exact lw_slo_nils | exact lw_slo_sle | exact lw_sl rfl | exact lw_unb | exact lw_gptr | exact lw_noid rfl | exact lw_cap rfl (Nat.le_refl _) | exact lw_cap rfl (by omega) | assumption)) ?_); exact okTms_nil), by ((repeat refine okBlks_cons (by (first | exact lb_dead | exact lb_same (by (first | assumption | exact noIds_tab (fun _ => rfl) _ _ | exact noIds_encL (fun _ => rfl) _ | rfl)) | exact lb_ro (by (first | assumption | exact noIds_tab (fun _ => rfl) _ _ | exact noIds_encL (fun _ => rfl) _ | rfl)) | exact lb_none | exact lb_cells (by ((repeat refine lws_cons (by (first | exact lw_any | exact lw_int | exact lw_bool | exact lw_ptr rfl | exact lw_slo rfl | exact lw_nilp | exact lw_nils | exact lw_str | exact lw_slo_nils | exact lw_slo_sle | exact lw_sl rfl | exact lw_unb | exact lw_gptr | exact lw_noid rfl | exact lw_cap rfl (Nat.le_refl _) | exact lw_cap rfl (by omega) | assumption)) ?_); exact lws_nil)) (by simp) | exact lb_iter | exact lb_cap (Nat.le_refl _) (Nat.le_refl _) rfl rfl | exact lb_capn (by assumption) (by (first | assumption | exact noIds_tab (fun _ => rfl) _ _ | exact noIds_encL (fun _ => rfl) _ | rfl)) | assumption)) ?_); exact okBlks_nil)⟩)⟩
end
theorem asks_row {H : Type} {enc : TypeId × Value → H} {W : World} {a : Option Addr} {len cap : Nat} {d : DataW H} {ps : List MemPlace} (h : DataW.Trod enc Go.Proofs.Try.prog W 0 (fun _ => true) true 31 (.slice a len cap) d ps) :
    ∃ xs : List Ask4, xs.length = len ∧ len ≤ 9223372036854775807 ∧ RowArg W (.slice a len cap) len (encL askL xs) := by
  obtain ⟨xs, q1, q2, _, q4⟩ := row_arg (f := askL) (ok := fun _ => True) askL_len (by omega) Go.Proofs.Try.underlying31 (by kernel_rfl) h fun cs n x hl hx => by
    have hf := fl_ok 4 (l := [(0, .bool), (1, .int .u64), (2, .int .u64), (3, .int .u8)]) (by kernel_rfl) hx
    obtain ⟨_, e0, z0, rfl⟩ := hf (0, .bool) (by simp)
    obtain ⟨_, e1, z1, rfl, _⟩ := hf (1, .int .u64) (by simp)
    obtain ⟨_, e2, z2, rfl, _⟩ := hf (2, .int .u64) (by simp)
    obtain ⟨_, e3, z3, rfl, _⟩ := hf (3, .int .u8) (by simp)
    refine ⟨(z0, z1, z2, z3), trivial, fun i l hi => ?_⟩
    match i with
    | 0 => simp at hi; subst hi; exact ⟨rfl, _, e0, by simp only [VR]⟩
    | 1 => simp at hi; subst hi; exact ⟨rfl, _, e1, by simp only [VR]⟩
    | 2 => simp at hi; subst hi; exact ⟨rfl, _, e2, by simp only [VR]⟩
    | 3 => simp at hi; subst hi; exact ⟨rfl, _, e3, by simp only [VR]⟩
    | i + 4 => simp at hi
  exact ⟨xs, q1, q2, q4⟩
theorem copies_any {H : Type} {enc : TypeId × Value → H} {W : World} {a1 a2 : Option Addr} {len1 cap1 len2 cap2 : Nat} {d1 d2 : DataW H} {p1 p2 : List MemPlace} (st : Int) (h1 : DataW.Trod enc Go.Proofs.Try.prog W 0 (fun _ => true) true 31 (.slice a1 len1 cap1) d1 p1)
    (h2 : DataW.Trod enc Go.Proofs.Try.prog W 0 (fun _ => true) true 31 (.slice a2 len2 cap2) d2 p2) :
    Calls Go.Proofs.Try.prog 7 #[.int .u64 st, .slice a1 len1 cap1, .slice a2 len2 cap2] W fun e W' => e = .returned (.bool true) ∧ Below W.heap.size W W' := by
  obtain ⟨xs, e1, n1, r1⟩ := asks_row h1
  obtain ⟨ys, e2, n2, r2⟩ := asks_row h2
  refine SFun.top (rows := [(.slice a1 len1 cap1, len1, encL askL xs), (.slice a2 len2 cap2, len2, encL askL ys)]) (g := []) (us := [.int .u64 st, .slice a1 len1 cap1, .slice a2 len2 cap2]) ⟨r1, r2, trivial⟩ (fun x hx => by cases hx) (fun r h => ?_) (copies_fun st xs ys len1 len2 e1 e2 n1 n2)
  simp only [VRs, VR]
  exact ⟨_, _, rfl, rfl, _, _, rfl, h 0 _ _ _ rfl, _, _, rfl, h 1 _ _ _ rfl, rfl⟩
end Go.Lev
