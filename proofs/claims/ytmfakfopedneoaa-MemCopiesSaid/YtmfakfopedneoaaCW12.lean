/- MemCopies (P6.3): for any shape, any operations, the law returns true; what was there stays as it was. No condition. -/
import Derived.Test.YtmfakfopedneoaaCW10
import Derived.Test.YtmfakfopedneoaaCW8C
import Derived.Test.YtmfakfopedneoaaLc
import Derived.Test.YtmfakfopedneoaaChecked
import Derived.KernelRfl

namespace Go.Lev
open Go.RowKit
set_option linter.unusedVariables false
set_option linter.unusedSimpArgs false
set_option maxRecDepth 100000
noncomputable section
theorem iW_x (raw : Bool) (n : Nat) (ax : List LV) (M : MS) : iW raw n ax (encL (cI .u64) M.W) (encL cL M.L) (encL (cI .u64) M.S) M.N M.C = encL (cI .u64) (runM raw (decOps ax) M (min n 60)).W := by simp only [iW, decM_enc]
theorem iL_x (raw : Bool) (n : Nat) (ax : List LV) (M : MS) : iL raw n ax (encL (cI .u64) M.W) (encL cL M.L) (encL (cI .u64) M.S) M.N M.C = encL cL (runM raw (decOps ax) M (min n 60)).L := by simp only [iL, decM_enc]
theorem iS_x (raw : Bool) (n : Nat) (ax : List LV) (M : MS) : iS raw n ax (encL (cI .u64) M.W) (encL cL M.L) (encL (cI .u64) M.S) M.N M.C = encL (cI .u64) (runM raw (decOps ax) M (min n 60)).S := by simp only [iS, decM_enc]
theorem iN_x (raw : Bool) (n : Nat) (ax : List LV) (M : MS) : iN raw n ax (encL (cI .u64) M.W) (encL cL M.L) (encL (cI .u64) M.S) M.N M.C = (runM raw (decOps ax) M (min n 60)).N := by simp only [iN, decM_enc]
theorem iC_x (raw : Bool) (n : Nat) (ax : List LV) (M : MS) : iC raw n ax (encL (cI .u64) M.W) (encL cL M.L) (encL (cI .u64) M.S) M.N M.C = (runM raw (decOps ax) M (min n 60)).C := by simp only [iC, decM_enc]
structure Sized (a b d : Nat) (m : MS) : Prop where
  w : m.W.length = a
  l : m.L.length = b
  s : m.S.length = d
theorem Sized.run {a b d : Nat} {m : MS} (h : Sized a b d m) (raw : Bool) (ops : Nat → OpR) (k : Nat) : Sized a b d (runM raw ops m k) := by
  obtain ⟨h1, h2, h3⟩ := runM_len raw ops m k
  exact ⟨h1.trans h.w, h2.trans h.l, h3.trans h.s⟩
theorem Sized.mz (a b d : Nat) (s : Int) : Sized a b d (mz a b d s) := ⟨by simp [Go.Lev.mz], by simp [Go.Lev.mz], by simp [Go.Lev.mz]⟩
theorem Sized.oks {a b d : Nat} {m : MS} (h : Sized a b d m) (ha : a ≤ 1000000) (hb : b ≤ 1000000) (hd : d ≤ 1000000) : okIu64 (encL (cI .u64) m.W) a = true ∧ okL (encL cL m.L) b = true ∧ okIu64 (encL (cI .u64) m.S) d = true :=
  ⟨okIu64_iff.2 ⟨_, rfl, h.w, by omega⟩, okL_iff.2 ⟨_, rfl, h.l, hb⟩, okIu64_iff.2 ⟨_, rfl, h.s, by omega⟩⟩
theorem copies_fun (xs ys zs : List OpR) (na nb nc : Nat) (ea : xs.length = na) (eb : ys.length = nb) (ec : zs.length = nc) (ha : na ≤ 9223372036854775807) (hb : nb ≤ 9223372036854775807) (hc : nc ≤ 9223372036854775807) (sa sb sc sd se : Int) :
    SFun Go.Proofs.Try.prog 7 [.agg (shC sa sb sc sd se), .slo 0 0 na 0, .slo 1 0 nb 0, .slo 2 0 nc 0] (mkS [.ro (encL opL xs), .ro (encL opL ys), .ro (encL opL zs)]) fun l _ => l = .bool true := by
  refine SFun.mono (SFun.pieces (Q := fun l _ => l = .bool true) 51 3 mcL [8] (by kernel_rfl) rfl rfl rfl ?_) fun l s' ⟨b0, h1, _⟩ => h1
  have nx := noids_o xs
  have ny := noids_o ys
  have nz := noids_o zs
  have oka := okR_enc ea ha
  have okb := okR_enc eb hb
  have okc := okR_enc ec hc
  obtain ⟨c1, c1'⟩ := cl_in sa (show (32 : Int) ≤ 256 by omega)
  obtain ⟨c2, c2'⟩ := cl_in sb (show (1 : Int) ≤ 16 by omega)
  obtain ⟨c3, c3'⟩ := cl_in sc (show (1 : Int) ≤ 16 by omega)
  obtain ⟨c4, c4'⟩ := cl_in sd (show (1 : Int) ≤ 4 by omega)
  have hma := mc_a sa sb sc sd se na nb nc (encL opL xs) (encL opL ys) (encL opL zs)
  have i1 := cl_id c1 c1'
  have i2 := cl_id c2 c2'
  have i3 := cl_id c3 c3'
  have i4 := cl_id c4 c4'
  have i5 : xmn (xmn se 4611686018427387903) 4611686018427387903 = xmn se 4611686018427387903 := by simp only [wd_mn]; split <;> (try split) <;> omega
  simp only [i1, i2, i3, i4, i5, xcm_self, wd_and_t, cond_true] at hma
  generalize xmn (xmx sa 32) 256 = pa at *
  generalize xmn (xmx sb 1) 16 = pb at *
  generalize xmn (xmx sc 1) 16 = pc at *
  generalize xmn (xmx sd 1) 4 = pd at *
  generalize xmn se 4611686018427387903 = pe at *
  obtain ⟨qa, rfl⟩ := Int.eq_ofNat_of_zero_le (show 0 ≤ pa by omega)
  obtain ⟨qb, rfl⟩ := Int.eq_ofNat_of_zero_le (show 0 ≤ pb by omega)
  obtain ⟨qd, rfl⟩ := Int.eq_ofNat_of_zero_le (show 0 ≤ pd by omega)
  have z1 := zW_len qa
  have z2 := zL_len qb
  have z3 := zW_len qd
  have w1 := noids_zW qa
  have w2 := noids_zL qb
  have w3 := noids_zW qd
  refine SSp.to cxp_ok (n := 40) (g := []) 4 4 rfl (σ := {m : MS // Sized qa qb qd m}) (fun _ => mcT na nb nc) (fun ⟨M, _⟩ => mcH qa qb pc qd pe M.N M.C qa qb qd (encL (cI .u64) M.W) (encL cL M.L) (encL (cI .u64) M.S) (encL opL xs) (encL opL ys) (encL opL zs)) (mkS_le (Nat.le_refl _)) (by kernel_rfl) ?_ fun ⟨M, hM⟩ => ?_
  · rw [hma]
    simp only [wd_nat, rep_w, rep_l]
    (repeat (first | (with_reducible refine way_t (by (first | with_reducible rfl | exact t_le (by omega) | exact t_eq (by omega) | exact t_nn (by omega) | exact t_lss (by omega) | exact t_leq (by omega) | exact t_gtr (by omega) | exact t_geq (by omega) | exact t_eql (by omega) | exact t_neq (by omega) | exact t_z (by omega) | exact wd_not_f | assumption)) ?_) | (with_reducible refine way_f (by (first | with_reducible rfl | exact f_le (by omega) | exact f_eq (by omega) | exact f_nn (by omega) | exact f_lss (by omega) | exact f_leq (by omega) | exact f_gtr (by omega) | exact f_geq (by omega) | exact f_eql (by omega) | exact f_neq (by omega) | exact f_z (by omega) | exact wd_not_t | assumption)) ?_)))
    exact ⟨rfl, ⟨mz qa qb qd pe, Sized.mz _ _ _ _⟩, [.id 0, .id 1, .id 2, .id 14, .id 8, .cap 7 0 qa, .id 10, .cap 9 0 qb, .id 11, .id 13, .cap 12 0 qd, .id 15, .id 16, .id 17, .id 18], by simp only [mz, zW, zL] at *; (exact ⟨by kernel_rfl, by ((repeat refine okTms_cons (by (first | exact lw_any | exact lw_int | exact lw_bool | exact lw_ptr rfl | exact lw_slo rfl | exact lw_nilp | exact lw_nils | exact lw_str | exact lw_slo_nils | exact lw_slo_sle | exact lw_sl rfl | exact lw_unb | exact lw_gptr | exact lw_noid rfl | exact lw_cap rfl (Nat.le_refl _) | exact lw_cap rfl (by omega) | assumption)) ?_); exact okTms_nil), by ((repeat refine okBlks_cons (by (first | exact lb_dead | exact lb_same (by (first | assumption | exact noIds_tab (fun _ => rfl) _ _ | exact noIds_encL (fun _ => rfl) _ | rfl)) | exact lb_ro (by (first | assumption | exact noIds_tab (fun _ => rfl) _ _ | exact noIds_encL (fun _ => rfl) _ | rfl)) | exact lb_none | exact lb_cells (by ((repeat refine lws_cons (by (first | exact lw_any | exact lw_int | exact lw_bool | exact lw_ptr rfl | exact lw_slo rfl | exact lw_nilp | exact lw_nils | exact lw_str | exact lw_slo_nils | exact lw_slo_sle | exact lw_sl rfl | exact lw_unb | exact lw_gptr | exact lw_noid rfl | exact lw_cap rfl (Nat.le_refl _) | exact lw_cap rfl (by omega) | assumption)) ?_); exact lws_nil)) (by simp) | exact lb_iter | exact lb_cap (Nat.le_refl _) (Nat.le_refl _) rfl rfl | exact lb_capn (by assumption) (by (first | assumption | exact noIds_tab (fun _ => rfl) _ _ | exact noIds_encL (fun _ => rfl) _ | rfl)) | assumption)) ?_); exact okBlks_nil)⟩)⟩
  dsimp only
  obtain ⟨o1, o2, o3⟩ := hM.oks (by omega) (by omega) (by omega)
  refine SSp.to cxp_ok (n := 40) (g := []) 2 6 rfl (σ := {m : MS // Sized qa qb qd m}) (fun _ => mcT na nb nc) (fun ⟨M, _⟩ => mcH qa qb pc qd pe M.N M.C qa qb qd (encL (cI .u64) M.W) (encL cL M.L) (encL (cI .u64) M.S) (encL opL xs) (encL opL ys) (encL opL zs)) (mkS_le (Nat.le_of_ble_eq_true rfl)) (by kernel_rfl) ?_ fun ⟨M, hM⟩ => ?_
  · rw [mc_b]
    simp only [o1, o2, o3, oka, eqLs_self, xcm_self, cond_true, iW_x, iL_x, iS_x, iN_x, iC_x]
    (repeat (first | (with_reducible refine way_t (by (first | with_reducible rfl | exact t_le (by omega) | exact t_eq (by omega) | exact t_nn (by omega) | exact t_lss (by omega) | exact t_leq (by omega) | exact t_gtr (by omega) | exact t_geq (by omega) | exact t_eql (by omega) | exact t_neq (by omega) | exact t_z (by omega) | exact wd_not_f | assumption)) ?_) | (with_reducible refine way_f (by (first | with_reducible rfl | exact f_le (by omega) | exact f_eq (by omega) | exact f_nn (by omega) | exact f_lss (by omega) | exact f_leq (by omega) | exact f_gtr (by omega) | exact f_geq (by omega) | exact f_eql (by omega) | exact f_neq (by omega) | exact f_z (by omega) | exact wd_not_t | assumption)) ?_)))
    exact ⟨rfl, ⟨_, hM.run false (decOps (encL opL xs)) (min na 60)⟩, [.id 0, .id 1, .id 2, .id 3, .id 4, .id 5, .id 6, .id 7, .id 8, .id 9, .id 10, .id 11, .id 12, .id 13, .id 14], by (exact ⟨by kernel_rfl, by ((repeat refine okTms_cons (by (first | exact lw_any | exact lw_int | exact lw_bool | exact lw_ptr rfl | exact lw_slo rfl | exact lw_nilp | exact lw_nils | exact lw_str | exact lw_slo_nils | exact lw_slo_sle | exact lw_sl rfl | exact lw_unb | exact lw_gptr | exact lw_noid rfl | exact lw_cap rfl (Nat.le_refl _) | exact lw_cap rfl (by omega) | assumption)) ?_); exact okTms_nil), by ((repeat refine okBlks_cons (by (first | exact lb_dead | exact lb_same (by (first | assumption | exact noIds_tab (fun _ => rfl) _ _ | exact noIds_encL (fun _ => rfl) _ | rfl)) | exact lb_ro (by (first | assumption | exact noIds_tab (fun _ => rfl) _ _ | exact noIds_encL (fun _ => rfl) _ | rfl)) | exact lb_none | exact lb_cells (by ((repeat refine lws_cons (by (first | exact lw_any | exact lw_int | exact lw_bool | exact lw_ptr rfl | exact lw_slo rfl | exact lw_nilp | exact lw_nils | exact lw_str | exact lw_slo_nils | exact lw_slo_sle | exact lw_sl rfl | exact lw_unb | exact lw_gptr | exact lw_noid rfl | exact lw_cap rfl (Nat.le_refl _) | exact lw_cap rfl (by omega) | assumption)) ?_); exact lws_nil)) (by simp) | exact lb_iter | exact lb_cap (Nat.le_refl _) (Nat.le_refl _) rfl rfl | exact lb_capn (by assumption) (by (first | assumption | exact noIds_tab (fun _ => rfl) _ _ | exact noIds_encL (fun _ => rfl) _ | rfl)) | assumption)) ?_); exact okBlks_nil)⟩)⟩
  dsimp only
  obtain ⟨o1, o2, o3⟩ := hM.oks (by omega) (by omega) (by omega)
  refine SSp.to cxp_ok (n := 40) (g := []) 1 7 rfl (σ := Unit) (fun _ => mcU na nb nc) (fun _ => mcI qa qb pc qd pe M.N M.C qa qb qd (encL (cI .u64) M.W) (encL cL M.L) (encL (cI .u64) M.S) (encL opL xs) (encL opL ys) (encL opL zs)) (mkS_le (Nat.le_of_ble_eq_true rfl)) (by kernel_rfl) ?_ fun _ => ?_
  · rw [mc_c]
    have e1 : xcut (encL (cI .u64) M.W) 0 (qa * 1) = encL (cI .u64) M.W := xcut_all (by rw [encIu64_len, hM.w]; omega)
    have e2 : xcut (encL cL M.L) 0 (qb * 3) = encL cL M.L := xcut_all (by rw [lk_n, hM.l]; omega)
    have e3 : xcut (encL (cI .u64) M.S) 0 (qd * 1) = encL (cI .u64) M.S := xcut_all (by rw [encIu64_len, hM.s]; omega)
    simp only [xcm_self, cond_true, encIu64_len, lk_n, hM.w, hM.l, hM.s, xnoid_Iu64, xnoid_l, wd_ln, wd_mul, wd_add, Nat.zero_add, e1, e2, e3]
    (repeat (first | (with_reducible refine way_t (by (first | with_reducible rfl | exact t_le (by omega) | exact t_eq (by omega) | exact t_nn (by omega) | exact t_lss (by omega) | exact t_leq (by omega) | exact t_gtr (by omega) | exact t_geq (by omega) | exact t_eql (by omega) | exact t_neq (by omega) | exact t_z (by omega) | exact wd_not_f | assumption)) ?_) | (with_reducible refine way_f (by (first | with_reducible rfl | exact f_le (by omega) | exact f_eq (by omega) | exact f_nn (by omega) | exact f_lss (by omega) | exact f_leq (by omega) | exact f_gtr (by omega) | exact f_geq (by omega) | exact f_eql (by omega) | exact f_neq (by omega) | exact f_z (by omega) | exact wd_not_t | assumption)) ?_)))
    exact ⟨rfl, (), [.id 0, .id 1, .id 2, .id 3, .id 4, .id 5, .id 6, .id 7, .id 8, .id 9, .id 10, .id 11, .id 12, .id 13, .id 14, .id 22, .id 16, .id 15, .id 18, .id 17, .id 19, .id 21, .id 20, .id 26, .id 23, .id 24, .id 25], by (exact ⟨by kernel_rfl, by ((repeat refine okTms_cons (by (first | exact lw_any | exact lw_int | exact lw_bool | exact lw_ptr rfl | exact lw_slo rfl | exact lw_nilp | exact lw_nils | exact lw_str | exact lw_slo_nils | exact lw_slo_sle | exact lw_sl rfl | exact lw_unb | exact lw_gptr | exact lw_noid rfl | exact lw_cap rfl (Nat.le_refl _) | exact lw_cap rfl (by omega) | assumption)) ?_); exact okTms_nil), by ((repeat refine okBlks_cons (by (first | exact lb_dead | exact lb_same (by (first | assumption | exact noIds_tab (fun _ => rfl) _ _ | exact noIds_encL (fun _ => rfl) _ | rfl)) | exact lb_ro (by (first | assumption | exact noIds_tab (fun _ => rfl) _ _ | exact noIds_encL (fun _ => rfl) _ | rfl)) | exact lb_none | exact lb_cells (by ((repeat refine lws_cons (by (first | exact lw_any | exact lw_int | exact lw_bool | exact lw_ptr rfl | exact lw_slo rfl | exact lw_nilp | exact lw_nils | exact lw_str | exact lw_slo_nils | exact lw_slo_sle | exact lw_sl rfl | exact lw_unb | exact lw_gptr | exact lw_noid rfl | exact lw_cap rfl (Nat.le_refl _) | exact lw_cap rfl (by omega) | assumption)) ?_); exact lws_nil)) (by simp) | exact lb_iter | exact lb_cap (Nat.le_refl _) (Nat.le_refl _) rfl rfl | exact lb_capn (by assumption) (by (first | assumption | exact noIds_tab (fun _ => rfl) _ _ | exact noIds_encL (fun _ => rfl) _ | rfl)) | assumption)) ?_); exact okBlks_nil)⟩)⟩
  refine SSp.last cxp_ok (n := 40) (mkS_le (Nat.le_of_ble_eq_true rfl)) ?_
  rw [mc_z]
  obtain ⟨q1, q2, q3⟩ := (hM.run false (decOps (encL opL ys)) (min nb 60)).oks (by omega) (by omega) (by omega)
  simp only [o1, o2, o3, q1, q2, q3, okb, okc, eqLs_self, xcm_self, cond_true, iW_x, iL_x, iS_x, iN_x, iC_x]
  (repeat (first | (with_reducible refine way_t (by (first | with_reducible rfl | exact t_le (by omega) | exact t_eq (by omega) | exact t_nn (by omega) | exact t_lss (by omega) | exact t_leq (by omega) | exact t_gtr (by omega) | exact t_geq (by omega) | exact t_eql (by omega) | exact t_neq (by omega) | exact t_z (by omega) | exact wd_not_f | assumption)) ?_) | (with_reducible refine way_f (by (first | with_reducible rfl | exact f_le (by omega) | exact f_eq (by omega) | exact f_nn (by omega) | exact f_lss (by omega) | exact f_leq (by omega) | exact f_gtr (by omega) | exact f_geq (by omega) | exact f_eql (by omega) | exact f_neq (by omega) | exact f_z (by omega) | exact wd_not_t | assumption)) ?_)))
  exact ⟨trivial, rfl, .bool true, [.ro _, .ro _, .ro _], [.id 0, .id 1, .id 2], rfl, by (exact ⟨by kernel_rfl, by ((repeat refine okTms_cons (by (first | exact lw_any | exact lw_int | exact lw_bool | exact lw_ptr rfl | exact lw_slo rfl | exact lw_nilp | exact lw_nils | exact lw_str | exact lw_slo_nils | exact lw_slo_sle | exact lw_sl rfl | exact lw_unb | exact lw_gptr | exact lw_noid rfl | exact lw_cap rfl (Nat.le_refl _) | exact lw_cap rfl (by omega) | assumption)) ?_); exact okTms_nil), by ((repeat refine okBlks_cons (by (first | exact lb_dead | exact lb_same (by (first | assumption | exact noIds_tab (fun _ => rfl) _ _ | exact noIds_encL (fun _ => rfl) _ | rfl)) | exact lb_ro (by (first | assumption | exact noIds_tab (fun _ => rfl) _ _ | exact noIds_encL (fun _ => rfl) _ | rfl)) | exact lb_none | exact lb_cells (by ((repeat refine lws_cons (by (first | exact lw_any | exact lw_int | exact lw_bool | exact lw_ptr rfl | exact lw_slo rfl | exact lw_nilp | exact lw_nils | exact lw_str | exact lw_slo_nils | exact lw_slo_sle | exact lw_sl rfl | exact lw_unb | exact lw_gptr | exact lw_noid rfl | exact lw_cap rfl (Nat.le_refl _) | exact lw_cap rfl (by omega) | assumption)) ?_); exact lws_nil)) (by simp) | exact lb_iter | exact lb_cap (Nat.le_refl _) (Nat.le_refl _) rfl rfl | exact lb_capn (by assumption) (by (first | assumption | exact noIds_tab (fun _ => rfl) _ _ | exact noIds_encL (fun _ => rfl) _ | rfl)) | assumption)) ?_); exact okBlks_nil)⟩)⟩
end
end Go.Lev
